import PyProof.Rows.All
import Wide.All
import OpenK.AllK
import Wide.FinOn
import HandS.ForExc
import HandS.Ends
import HandS.Comp
import PySem.Challenge.RW_drawclaims_k24_constants_and_errors_made
import HandS.IsInst
import HandS.Wide
import HandS.WideBits
import HandS.Walk
import HandS.Style
import HandS.Zip
import HandS.Lambda
import HandS.ExcInit
import HandS.ExcIs
import HandS.ExcField
import HandS.Defaults
import HandS.Iter
import HandS.Conv
import HandS.RevRange
import KE.GoesEnum
import KE.GoesMore
import HandS.ForList
import HandS.Text
import HandS.TupAny
import HandS.Rev
import HandS.HotCalls
import KE.KTryMore
import HandS.TupMul
import HandS.DictComp
import HandS.ClsMeth
import HandS.MakeKwOnly
import KE.KFmtOwn
import PyProof.EqKinds
import PyProof.NeKinds
import KE.KOpsOwn
import KE.KExcInit
import PyProof.ExcBaseAll.LookupError
import PyProof.ExcBaseAll.ArithmeticError
import HandS.Star
import HandS.SortInts
import HandS.EndTab
import HandS.Deep
import HandS.Small
import HandS.StrMore
import HandS.Codes
import HandS.FStr
import HandS.Gcd
import HandS.SetFor
import KE.KMethU
import PyProof.LongRange
import KE.GoesZip
import KE.KCallOwn
import PyProof.StrOps2
import HandS.TryMany
import HandS.IterVal
import HandS.RaiseMore
import HandS.Flow
import HandS.ExcValue
import HandS.MakeKw
import PyProof.ReprBulk
import PyProof.FitsInt
import PyProof.StrLawsRepr
import PyProof.Rows.StrDigitsNeg
import HandS.List
import HandS.WordsDict
import HandS.Exc
set_option Elab.async false
set_option linter.all false
set_option maxRecDepth 100000
set_option maxHeartbeats 4000000
namespace GX
open PySem PySem.Spec PyProof.Rows L2
/-- a def's promise, kept where the guards around are known to be none -/
structure FnG (P : Program) (w : World) (K : PySem.W.Frag) (mg : Str → Option Value) (base : Heap) (CX : CXT)
    (k : Nat) (f : Addr) (fd : FuncData) (ps : List Str) (sp : Sp) : Prop where
  ln : ∀ (vs : List V) (H : Hp) (Q : VK) (E : XK), sp vs H Q E → vs.length = ps.length
  go : ∀ (A : Around) (outer : List Env) (s : Shared) (H : Hp) (args : Args) (us : List Value) (vs : List V) (Q : VK) (E : XK),
    A.guards = some [] → Room k A → Env0 P w K mg base A outer s H → BindsTo s fd args (ps.zip us) → Vals vs us → sp vs H Q E →
    codeAny (model P w) A (.call (.ref f) args) (CR CX outer P w H s Q E) s
section
variable {P : Program} {w : World} {K : PySem.W.Frag} {mg : Str → Option Value} {base : Heap} {CX : CXT}
  {k j : Nat} {f : Addr} {fd : FuncData} {ps N : List Str} {sp : Sp}
theorem FnG.mono (F : FnG P w K mg base CX j f fd ps sp) (h : j ≤ k) : FnG P w K mg base CX k f fd ps sp :=
  ⟨F.ln, fun A outer s H args us vs Q E hg hr => F.go A outer s H args us vs Q E hg (hr.mono h)⟩
/-- the def's body, read where the guards are none -/
theorem fnG {x qual : Str} {st : Stmt} (F : Fun K x qual st f fd) (S : FnScope N ps (defScope st)) (len : ∀ (vs : List V) (H : Hp) (Q : VK) (E : XK), sp vs H Q E → vs.length = ps.length)
    (body : ∀ (cdv : Value) (A : Around) (outer : List Env) (s : Shared) (H : Hp) (vs : List V) (Q : VK) (E : XK), A.guards = some [] →
      Room k (A.deeper (envOfC qual (defScope st) s.heap.objs.size f cdv)) → sp vs H Q E →
      ∃ t, PSs (cxOf CX P w K mg base N qual (defScope st) f cdv A outer s H E) (defBody st) t ∧
        t { nx := fun _ H' => Q .non H', rt := Q } (start N vs) H) : FnG P w K mg base CX (k + 1) f fd ps sp := by
  obtain ⟨oc, od, kV, doc, pm, an, cdv, ct, osl, rfl, lk, hcd⟩ := F.ex
  constructor
  · exact len
  intro A outer s H args us vs Q E hG hr e0 hb rv hsp
  have KX : K.In s.heap := e0.mod.kin.keeps (fun b o e => (e0.bs b o e).1)
  have lim : s.heap.NoLimit := e0.mod.nolimit.keeps (fun b o e => (e0.bs b o e).1)
  obtain ⟨t, ht, hq⟩ := body cdv A outer s H vs Q E hG (hr.deeper _) hsp
  have kinds : ∀ y ∈ ps.zip us, (defScope st).names.lookup y.1 = some .local ∨
      ((defScope st).names.lookup y.1 = some .cell ∧ ((cellsFrom (s.heap.objs.size + 1) (defScope st).names []).lookup y.1).isSome = true) := by
    rintro ⟨n, v⟩ hy
    have hn := (List.of_mem_zip hy).1
    cases S.par n hn with
    | inl q => exact Or.inl q
    | inr q => exact Or.inr ⟨q, PySem.W.cellsFrom_some _ _ _ (Or.inl q)⟩
  refine codeAny_call_function hr.depth (KX _ _ lk) rfl S.co S.gen rfl (PySem.W.codeRec_of KX hcd) (hb _ _ _ _ ?_)
  refine wpAny_newFunctionEnv_cells S.kind kinds ?_
  rintro env rfl s1 x
  refine ⟨lim.keeps x.toInCall.keep, codeAny_func ?_⟩
  have I := inv_start (CX := CX) (E := E) S hr.hd e0 (len _ _ _ _ hsp) rv x
  refine wpAny_mono (ht.run [] s1 (start N vs) H _ I hq) ?_ (fun e s' z => z)
  intro fl s' z
  match fl, z with
  | .ret u, z =>
    obtain ⟨v, σ', H', J, r', q⟩ := z
    exact ⟨v, H', J.os, J.bare, J.base, J.hok, r', q⟩
  | .next, z =>
    obtain ⟨σ', H', J, q⟩ := z
    exact ⟨V.non, H', J.os, J.bare, J.base, J.hok, rfl, q⟩
  | .brk, z =>
    obtain ⟨_, _, _, q⟩ := z
    exact q.elim
  | .cont, z =>
    obtain ⟨_, _, _, q⟩ := z
    exact q.elim
/-- .. of which no exception leaves -/
theorem fnG0 {x qual : Str} {st : Stmt} (F : Fun K x qual st f fd) (S : FnScope N ps (defScope st)) (len : ∀ (vs : List V) (H : Hp) (Q : VK) (E : XK), sp vs H Q E → vs.length = ps.length)
    (body : ∀ (cdv : Value) (A : Around) (outer : List Env) (s : Shared) (H : Hp) (vs : List V) (Q : VK) (E : XK), A.guards = some [] →
      Room k (A.deeper (envOfC qual (defScope st) s.heap.objs.size f cdv)) → sp vs H Q E →
      ∃ t, PSs (cxOf CX0 P w K mg base N qual (defScope st) f cdv A outer s H E).nox (defBody st) t ∧
        t { nx := fun _ H' => Q .non H', rt := Q } (start N vs) H) : FnG P w K mg base CX0 (k + 1) f fd ps sp :=
  fnG F S len fun cdv A outer s H vs Q E hG hr h =>
    let ⟨t, a, b⟩ := body cdv A outer s H vs Q E hG hr h
    ⟨t, a.nox, b⟩
end
section
variable {X : Cx} {CX : CXT} {k : Nat} {f : Addr} {fd : FuncData} {ps : List Str} {sp : Sp} {E : XK} {x : Str} {p pos : Pos} {e : Expr} {es : List Expr} {t : TA}
/-- f(e, ..) of such a def -/
theorem pe_callG (hG : X.A.guards = some []) (F : FnG X.prog X.w X.K X.mg X.base CX k f fd ps sp) (hr : Room k X.A) (hg : Gl X x) (hm : X.mg x = some (.ref f))
    (hk : PySem.W.keepIn X.K (.ref f) = true) (hb : Binds X.K fd ps []) (hx : Passes CX X E) (ha : PA X (e :: es) t) (hdb : (x == ("__debug__" : Str)) = false := by decide)
    (he : starEach (e :: es) X.env = (false, eval e X.env) :: starEach es X.env := by rfl)
    (hpl : (backTo pos (starEach es X.env)).any (·.1) = false := by rfl) : PE X (.Call (.Name x p) (e :: es) [] pos) (tCall sp [] E t) := by
  constructor
  intro pins s σ H Q I h
  refine wpAny_Call_Name_kw (ld_glob I hg hm ?_ hdb)
  refine PySem.W.callWith_K (h₀ := X.base) I.ok.mod.kin hk (thn (ha.run pos pins s σ H _ I h) ?_) he hpl
  rintro us s1 ⟨vs, H1, I1, r, q⟩
  refine ⟨I1.kIn, ?_⟩
  rw [List.append_nil] at q
  have hl : us.length = ps.length := r.length.symm.trans (F.ln _ _ _ _ q)
  have bd := hb s1 us I1.kIn
  rw [List.append_nil] at bd
  refine wpAny_call (codeAny_mono (F.go _ _ _ _ _ _ _ _ _ hG hr I1.env0 (bd hl) r q) ?_)
  intro r' s' z
  match r', z with
  | .error e', z => exact hx pins σ H1 s1 e' s' I1 z
  | .ok (.ret u), z => exact I1.after z
  | .ok .next, z => exact z.elim
  | .ok .brk, z => exact z.elim
  | .ok .cont, z => exact z.elim
end
end GX
set_option Elab.async false
set_option linter.all false
set_option maxRecDepth 100000
set_option maxHeartbeats 0
def PySem.W.Fast.tw18244600962042007740 : Nat := 0
def PySem.W.Fast.tw15528398401043776008 : Nat := 0
def PySem.W.Fast.tw1738413865818383526 : Nat := 0
def PySem.W.Fast.tw163365299022577829 : Nat := 0
def PySem.W.Fast.tw11119982773090434776 : Nat := 0
def PySem.W.Fast.tw884886738709937274 : Nat := 0
def PySem.W.Fast.tw14531671976935129292 : Nat := 0
def PySem.W.Fast.tw15947208414983130481 : Nat := 0
def PySem.W.Fast.tw4521504176116999563 : Nat := 0
def PySem.W.Fast.tw18268199226784642669 : Nat := 0
def PySem.W.Fast.tw536602951381193632 : Nat := 0
def PySem.W.Fast.tw1493794362227971039 : Nat := 0
def PySem.W.Fast.tw12126954553863807736 : Nat := 0
def PySem.W.Fast.tw14337051113568185704 : Nat := 0
def PySem.W.Fast.tw4170509811026203220 : Nat := 0
def PySem.W.Fast.tw3492972679702939897 : Nat := 0
def PySem.W.Fast.tw17738114661143167583 : Nat := 0
def PySem.W.Fast.tw14726057542261121467 : Nat := 0
def PySem.W.Fast.tw8195760270637198320 : Nat := 0
def PySem.W.Fast.tw3758015860904676523 : Nat := 0
def PySem.W.Fast.tw4842453944919353944 : Nat := 0
def PySem.W.Fast.tw5340252467654311453 : Nat := 0
def PySem.W.Fast.tw15938114496390092313 : Nat := 0
def PySem.W.Fast.tw13263800243335764161 : Nat := 0
def PySem.W.Fast.tw18167036254724866857 : Nat := 0
def PySem.W.Fast.tw2846340376352731917 : Nat := 0
def PySem.W.Fast.tw10019261798387888002 : Nat := 0
def PySem.W.Fast.tw14537028510024183152 : Nat := 0
def PySem.W.Fast.tw6747297019632245618 : Nat := 0
def PySem.W.Fast.tw10184246813388961752 : Nat := 0
def PySem.W.Fast.tw14418446546301356558 : Nat := 0
def PySem.W.Fast.tw3731206896074084556 : Nat := 0
def PySem.W.Fast.tw8663436765189255663 : Nat := 0
def PySem.W.Fast.tw7967243220414034427 : Nat := 0
def PySem.W.Fast.tw8168273342661751502 : Nat := 0
def PySem.W.Fast.tw4146297527388313446 : Nat := 0
def PySem.W.Fast.tw14135104846635152827 : Nat := 0
def PySem.W.Fast.tw18037498754091756325 : Nat := 0
def PySem.W.Fast.tw12249268114277287439 : Nat := 0
def PySem.W.Fast.tw6363915930560973389 : Nat := 0
def PySem.W.Fast.tw3611633596513121623 : Nat := 0
def PySem.W.Fast.tw11239576389831286718 : Nat := 0
def PySem.W.Fast.tw12685175249406605171 : Nat := 0
def PySem.W.Fast.tw17567504919061024367 : Nat := 0
def PySem.W.Fast.tw11155324209571990810 : Nat := 0
def PySem.W.Fast.tw11517049081765615053 : Nat := 0
def PySem.W.Fast.tw10145444906027355076 : Nat := 0
def PySem.W.Fast.tw5803757127449466991 : Nat := 0
def PySem.W.Fast.tw7423423307801194900 : Nat := 0
def PySem.W.Fast.tw4081310756751236433 : Nat := 0
def PySem.W.Fast.tw4326004216612550731 : Nat := 0
def PySem.W.Fast.tw3168926277436918510 : Nat := 0
def PySem.W.Fast.tw12846890324269494733 : Nat := 0
def PySem.W.Fast.tw11624365643340815848 : Nat := 0
def PySem.W.Fast.tw14548164049298813692 : Nat := 0
def PySem.W.Fast.tw1873038099755926258 : Nat := 0
def PySem.W.Fast.tw7893833402298958222 : Nat := 0
def PySem.W.Fast.tw8103241477973971288 : Nat := 0
def PySem.W.Fast.tw18014355638670313435 : Nat := 0
def PySem.W.Fast.tw2761640591406528988 : Nat := 0
def PySem.W.Fast.tw17702154167516115868 : Nat := 0
def PySem.W.Fast.tw12392421658700758083 : Nat := 0
def PySem.W.Fast.tw10856276677021320927 : Nat := 0
def PySem.W.Fast.tw718534551459125422 : Nat := 0
def PySem.W.Fast.tw12498839064218107204 : Nat := 0
def PySem.W.Fast.tw4001813715189589691 : Nat := 0
def PySem.W.Fast.tw14624628619124940528 : Nat := 0
def PySem.W.Fast.tw3439032717736759450 : Nat := 0
def PySem.W.Fast.tw8031332140055832661 : Nat := 0
def PySem.W.Fast.tw1348614638896856324 : Nat := 0
def PySem.W.Fast.tw12084377234405262239 : Nat := 0
def PySem.W.Fast.tw802305096593667985 : Nat := 0
def PySem.W.Fast.tw17876143388054344043 : Nat := 0
def PySem.W.Fast.tw6040728293544618171 : Nat := 0
def PySem.W.Fast.tw8199181946364188960 : Nat := 0
def PySem.W.Fast.tw7436014491164515202 : Nat := 0
def PySem.W.Fast.tw2992575241157637903 : Nat := 0
def PySem.W.Fast.tw17070119775120659754 : Nat := 0
def PySem.W.Fast.tw15386755825041807578 : Nat := 0
def PySem.W.Fast.tw13479314372418684988 : Nat := 0
def PySem.W.Fast.tw17295023177011552216 : Nat := 0
def PySem.W.Fast.tw12058426495169381168 : Nat := 0
def PySem.W.Fast.tw7983892270367881031 : Nat := 0
def PySem.W.Fast.tw10635940599236011038 : Nat := 0
def PySem.W.Fast.tw13059465882336054342 : Nat := 0
def PySem.W.Fast.tw16940861633027826062 : Nat := 0
def PySem.W.Fast.tw8379631816505973430 : Nat := 0
def PySem.W.Fast.tw11125153846950772548 : Nat := 0
def PySem.W.Fast.tw2190811183079716920 : Nat := 0
def PySem.W.Fast.tw15605762727550475483 : Nat := 0
def PySem.W.Fast.tw3382753761374304962 : Nat := 0
def PySem.W.Fast.tw5763923511630614693 : Nat := 0
def PySem.W.Fast.tw10268505350518542677 : Nat := 0
def PySem.W.Fast.tw13870375445749721283 : Nat := 0
def PySem.W.Fast.tw6537569293820369818 : Nat := 0
def PySem.W.Fast.tw8997596005673386278 : Nat := 0
def PySem.W.Fast.tw17971940691209003797 : Nat := 0
def PySem.W.Fast.tw3573597018668196336 : Nat := 0
def PySem.W.Fast.tw4291463839179849417 : Nat := 0
def PySem.W.Fast.tw17117325948167954472 : Nat := 0
def PySem.W.Fast.tw11914299085068277075 : Nat := 0
def PySem.W.Fast.tw14105788464108027331 : Nat := 0
def PySem.W.Fast.tw14844351732179902284 : Nat := 0
def PySem.W.Fast.tw2631677864361890187 : Nat := 0
def PySem.W.Fast.tw2512313222525268912 : Nat := 0
def PySem.W.Fast.tw16937708229708908026 : Nat := 0
def PySem.W.Fast.tw6088040447354284887 : Nat := 0
def PySem.W.Fast.tw18293031469729562598 : Nat := 0
def PySem.W.Fast.tw12012616849503627258 : Nat := 0
def PySem.W.Fast.tw13584816407019509329 : Nat := 0
def PySem.W.Fast.tw10928617267413543242 : Nat := 0
def PySem.W.Fast.tw13741321487772798674 : Nat := 0
def PySem.W.Fast.tw10266228975402823729 : Nat := 0
def PySem.W.Fast.tw8493596937994175651 : Nat := 0
def PySem.W.Fast.tw9262434668288488787 : Nat := 0
def PySem.W.Fast.tw6421919290796131803 : Nat := 0
def PySem.W.Fast.tw17065735909005717408 : Nat := 0
def PySem.W.Fast.tw9111725778290439337 : Nat := 0
def PySem.W.Fast.tw14018531515822263330 : Nat := 0
def PySem.W.Fast.tw8480403400620366793 : Nat := 0
def PySem.W.Fast.tw12109505875150664268 : Nat := 0
def PySem.W.Fast.tw12530602239479273209 : Nat := 0
def PySem.W.Fast.tw15733442396676482853 : Nat := 0
def PySem.W.Fast.tw2476888536887278378 : Nat := 0
def PySem.W.Fast.tw3876135322993125929 : Nat := 0
def PySem.W.Fast.tw9830021923481607455 : Nat := 0
def PySem.W.Fast.tw15248320010786303940 : Nat := 0
def PySem.W.Fast.tw14840425438662201009 : Nat := 0
def PySem.W.Fast.tw12373588391835000538 : Nat := 0
def PySem.W.Fast.tw2115946095277108505 : Nat := 0
def PySem.W.Fast.tw2035500272546880259 : Nat := 0
def PySem.W.Fast.tw18346985895530531761 : Nat := 0
def PySem.W.Fast.tw10762774978963791027 : Nat := 0
def PySem.W.Fast.tw16250587140930337821 : Nat := 0
def PySem.W.Fast.tw2488160180528295647 : Nat := 0
def PySem.W.Fast.tw9177016416267204886 : Nat := 0
def PySem.W.Fast.tw12186093077739017761 : Nat := 0
def PySem.W.Fast.tw14310992162170665379 : Nat := 0
def PySem.W.Fast.tw5808095126576206003 : Nat := 0
def PySem.W.Fast.tw1018684727552498362 : Nat := 0
def PySem.W.Fast.tw6446384231315240813 : Nat := 0
def PySem.W.Fast.tw11249542254473348091 : Nat := 0
def PySem.W.Fast.tw16538347825812724265 : Nat := 0
def PySem.W.Fast.tw5010785717330683087 : Nat := 0
def PySem.W.Fast.tw17684033920766550621 : Nat := 0
def PySem.W.Fast.tw4809675971075980537 : Nat := 0
def PySem.W.Fast.tw13483000256075304506 : Nat := 0
def PySem.W.Fast.tw5108873815338781329 : Nat := 0
def PySem.W.Fast.tw1306120553582571346 : Nat := 0
def PySem.W.Fast.tw10285093415907288565 : Nat := 0
def PySem.W.Fast.tw517243270669250643 : Nat := 0
def PySem.W.Fast.tw4721744274330236378 : Nat := 0
def PySem.W.Fast.tw12955208742606812723 : Nat := 0
def PySem.W.Fast.tw16809024352173963137 : Nat := 0
def PySem.W.Fast.tw10711458098999823923 : Nat := 0
def PySem.W.Fast.tw2684592291579250755 : Nat := 0
def PySem.W.Fast.tw5161486098790506094 : Nat := 0
def PySem.W.Fast.tw14414875901026222940 : Nat := 0
def PySem.W.Fast.tw10075884823199225657 : Nat := 0
def PySem.W.Fast.tw11825020106753456802 : Nat := 0
def PySem.W.Fast.tw9255857531490783322 : Nat := 0
def PySem.W.Fast.tw11639776850305211577 : Nat := 0
def PySem.W.Fast.tw10229917324553302790 : Nat := 0
def PySem.W.Fast.tw2595551870812045070 : Nat := 0
def PySem.W.Fast.tw6320664307107659623 : Nat := 0
def PySem.W.Fast.tw13715820429101373565 : Nat := 0
def PySem.W.Fast.tw13692570143217743549 : Nat := 0
def PySem.W.Fast.tw10060350020906888095 : Nat := 0
def PySem.W.Fast.tw1277630532891883490 : Nat := 0
def PySem.W.Fast.tw15021108861229060031 : Nat := 0
def PySem.W.Fast.tw9177642841039961713 : Nat := 0
def PySem.W.Fast.tw11176303843006043218 : Nat := 0
def PySem.W.Fast.tw10001286792446951509 : Nat := 0
def PySem.W.Fast.tw4635515781582617610 : Nat := 0
def PySem.W.Fast.tw16868350127009864659 : Nat := 0
def PySem.W.Fast.tw3631813743735054714 : Nat := 0
def PySem.W.Fast.tw223776465784891974 : Nat := 0
def PySem.W.Fast.tw9990511295923422842 : Nat := 0
def PySem.W.Fast.tw3427383071033870464 : Nat := 0
def PySem.W.Fast.tw9748699636476888394 : Nat := 0
def PySem.W.Fast.tw17963586156232245953 : Nat := 0
def PySem.W.Fast.tw8403586160518728252 : Nat := 0
def PySem.W.Fast.tw3097808439462100437 : Nat := 0
def PySem.W.Fast.tw17578244544760022891 : Nat := 0
def PySem.W.Fast.tw10792005052085688139 : Nat := 0
def PySem.W.Fast.tw7045233241635471087 : Nat := 0
def PySem.W.Fast.tw4681671887656464531 : Nat := 0
def PySem.W.Fast.tw16272837319206935298 : Nat := 0
def PySem.W.Fast.tw6235844390287354082 : Nat := 0
def PySem.W.Fast.tw12852214405433112574 : Nat := 0
def PySem.W.Fast.tw7716535170760492627 : Nat := 0
def PySem.W.Fast.tw9442043754880287658 : Nat := 0
def PySem.W.Fast.tw3072568341786225173 : Nat := 0
def PySem.W.Fast.tw6392299092152475418 : Nat := 0
def PySem.W.Fast.tw9130594933344039718 : Nat := 0
def PySem.W.Fast.tw13492382270482235642 : Nat := 0
def PySem.W.Fast.tw16942296210974785396 : Nat := 0
def PySem.W.Fast.tw17223614184959602243 : Nat := 0
def PySem.W.Fast.tw10778067556776207350 : Nat := 0
def PySem.W.Fast.tw4720510521462164751 : Nat := 0
def PySem.W.Fast.tw7709510605149229008 : Nat := 0
def PySem.W.Fast.tw3367882087181387416 : Nat := 0
def PySem.W.Fast.tw13207814155700339818 : Nat := 0
def PySem.W.Fast.tw17158686928856619279 : Nat := 0
def PySem.W.Fast.tw16375910170824195601 : Nat := 0
def PySem.W.Fast.tw7764367904001271465 : Nat := 0
def PySem.W.Fast.tw9407838996428918990 : Nat := 0
def PySem.W.Fast.tw11466290540292384019 : Nat := 0
def PySem.W.Fast.tw16872332216671241951 : Nat := 0
def PySem.W.Fast.tw13444197757979768335 : Nat := 0
def PySem.W.Fast.tw16982405941395628881 : Nat := 0
def PySem.W.Fast.tw15042968522957461757 : Nat := 0
def PySem.W.Fast.tw12156185083118601026 : Nat := 0
def PySem.W.Fast.tw582539074948906334 : Nat := 0
def PySem.W.Fast.tw10431893641543339401 : Nat := 0
def PySem.W.Fast.tw16042328972443300189 : Nat := 0
def PySem.W.Fast.tw4651989316173999529 : Nat := 0
def PySem.W.Fast.tw6621263549162516550 : Nat := 0
def PySem.W.Fast.tw15697430131815846269 : Nat := 0
def PySem.W.Fast.tw490226395833259753 : Nat := 0
def PySem.W.Fast.tw9579055205335260158 : Nat := 0
def PySem.W.Fast.tw4990383184010585670 : Nat := 0
def PySem.W.Fast.tw2558382660523371390 : Nat := 0
def PySem.W.Fast.tw8263706603780857140 : Nat := 0
def PySem.W.Fast.tw1688547360351200735 : Nat := 0
def PySem.W.Fast.tw8896774088638143080 : Nat := 0
def PySem.W.Fast.tw6187686724644617943 : Nat := 0
def PySem.W.Fast.tw2986889099159247026 : Nat := 0
def PySem.W.Fast.tw4106060626871024956 : Nat := 0
def PySem.W.Fast.tw2424484166016826860 : Nat := 0
def PySem.W.Fast.tw7199572091157185413 : Nat := 0
def PySem.W.Fast.tw4414136683950442898 : Nat := 0
def PySem.W.Fast.tw6495898957791791831 : Nat := 0
def PySem.W.Fast.tw10090077158431756764 : Nat := 0
def PySem.W.Fast.tw13160016170313646669 : Nat := 0
def PySem.W.Fast.tw6853758419118703139 : Nat := 0
def PySem.W.Fast.tw18184261866525310668 : Nat := 0
def PySem.W.Fast.tw1789559414674444397 : Nat := 0
def PySem.W.Fast.tw13894697130499513205 : Nat := 0
def PySem.W.Fast.tw4993645960415062670 : Nat := 0
def PySem.W.Fast.tw9759551860472704160 : Nat := 0
def PySem.W.Fast.tw15716264492877935455 : Nat := 0
def PySem.W.Fast.tw2363142525838546318 : Nat := 0
def PySem.W.Fast.tw13914014366211428361 : Nat := 0
def PySem.W.Fast.tw5328225014412051244 : Nat := 0
def PySem.W.Fast.tw17543835182341035189 : Nat := 0
def PySem.W.Fast.tw15401841837892439982 : Nat := 0
def PySem.W.Fast.tw17904873798985542362 : Nat := 0
def PySem.W.Fast.tw8072345788161976211 : Nat := 0
def PySem.W.Fast.tw13435195938518719848 : Nat := 0
def PySem.W.Fast.tw16061579465905365372 : Nat := 0
def PySem.W.Fast.tw6326956704032307544 : Nat := 0
def PySem.W.Fast.tw11209921699698768073 : Nat := 0
def PySem.W.Fast.tw7972852349946677391 : Nat := 0
def PySem.W.Fast.tw8380140907949562003 : Nat := 0
def PySem.W.Fast.tw15235174264298567571 : Nat := 0
def PySem.W.Fast.tw15722506042135806933 : Nat := 0
def PySem.W.Fast.tw13350294055194373860 : Nat := 0
def PySem.W.Fast.tw8877169713824228093 : Nat := 0
def PySem.W.Fast.tw10483317002759219835 : Nat := 0
def PySem.W.Fast.tw13479493033867655137 : Nat := 0
def PySem.W.Fast.tw14176046582592261842 : Nat := 0
def PySem.W.Fast.tw9997815166223482289 : Nat := 0
def PySem.W.Fast.tw6727351684434775454 : Nat := 0
def PySem.W.Fast.tw12545861303059065312 : Nat := 0
def PySem.W.Fast.tw18313649799753268496 : Nat := 0
def PySem.W.Fast.tw9161708151224160693 : Nat := 0
def PySem.W.Fast.tw17506687923440883353 : Nat := 0
def PySem.W.Fast.tw14262175550985414013 : Nat := 0
def PySem.W.Fast.tw16204411309030954301 : Nat := 0
def PySem.W.Fast.tw17522322670261568112 : Nat := 0
def PySem.W.Fast.tw11222879816690727444 : Nat := 0
def PySem.W.Fast.tw4363866547209284669 : Nat := 0
def PySem.W.Fast.tw12021710176209308779 : Nat := 0
def PySem.W.Fast.tw5243311812327055651 : Nat := 0
def PySem.W.Fast.tw13792139681601261548 : Nat := 0
def PySem.W.Fast.tw5363417596477931882 : Nat := 0
def PySem.W.Fast.tw16752420784872349590 : Nat := 0
def PySem.W.Fast.tw2465386788354023995 : Nat := 0
def PySem.W.Fast.tw17280599270201780270 : Nat := 0
def PySem.W.Fast.tw5140408769173893946 : Nat := 0
def PySem.W.Fast.tw7842523575593055396 : Nat := 0
def PySem.W.Fast.tw12445211237547044356 : Nat := 0
def PySem.W.Fast.tw10423494240550104261 : Nat := 0
def PySem.W.Fast.tw14657380774168858771 : Nat := 0
def PySem.W.Fast.tw10889263498988688142 : Nat := 0
def PySem.W.Fast.tw17055572815820305041 : Nat := 0
def PySem.W.Fast.tw6065045431642822247 : Nat := 0
def PySem.W.Fast.tw4572392399980873409 : Nat := 0
def PySem.W.Fast.tw15705422208820185165 : Nat := 0
def PySem.W.Fast.tw11589391360750213797 : Nat := 0
def PySem.W.Fast.tw5279373152504951243 : Nat := 0
def PySem.W.Fast.tw6311245040080734361 : Nat := 0
def PySem.W.Fast.tw1358154810795762146 : Nat := 0
def PySem.W.Fast.tw137266510573001052 : Nat := 0
def PySem.W.Fast.tw15031959950239278246 : Nat := 0
def PySem.W.Fast.tw5316610739450997480 : Nat := 0
def PySem.W.Fast.tw8198654785321490594 : Nat := 0
def PySem.W.Fast.tw5397379780793955359 : Nat := 0
def PySem.W.Fast.tw10463278724611428676 : Nat := 0
def PySem.W.Fast.tw6443745141269763556 : Nat := 0
def PySem.W.Fast.tw14499009708752897232 : Nat := 0
def PySem.W.Fast.tw9259295247410953496 : Nat := 0
def PySem.W.Fast.tw10858489750873924113 : Nat := 0
def PySem.W.Fast.tw888268786935222235 : Nat := 0
def PySem.W.Fast.tw8260024323887839515 : Nat := 0
def PySem.W.Fast.tw2440215107991086980 : Nat := 0
def PySem.W.Fast.tw3520172707544999288 : Nat := 0
def PySem.W.Fast.tw17212683620611163978 : Nat := 0
def PySem.W.Fast.tw9590028033133187333 : Nat := 0
def PySem.W.Fast.tw7072459719574692157 : Nat := 0
def PySem.W.Fast.tw5147872002698080102 : Nat := 0
def PySem.W.Fast.tw10360424132817654259 : Nat := 0
def PySem.W.Fast.tw6654410956805932489 : Nat := 0
def PySem.W.Fast.tw7413960511933290584 : Nat := 0
def PySem.W.Fast.tw14294430434373197552 : Nat := 0
def PySem.W.Fast.tw17018502704477908644 : Nat := 0
def PySem.W.Fast.tw11916595490261630088 : Nat := 0
def PySem.W.Fast.tw16507922578667604206 : Nat := 0
def PySem.W.Fast.tw18336780449093492298 : Nat := 0
def PySem.W.Fast.tw9126371468954172566 : Nat := 0
def PySem.W.Fast.tw11548491172698454542 : Nat := 0
def PySem.W.Fast.tw8537880647283442152 : Nat := 0
def PySem.W.Fast.tw4727645877287059981 : Nat := 0
def PySem.W.Fast.tw4590992198515157259 : Nat := 0
def PySem.W.Fast.tw6946109468778575342 : Nat := 0
def PySem.W.Fast.tw4284418803995564811 : Nat := 0
def PySem.W.Fast.tw5483094577574144700 : Nat := 0
def PySem.W.Fast.tw23046115656522085 : Nat := 0
def PySem.W.Fast.tw10493147556911171608 : Nat := 0
def PySem.W.Fast.tw6357993132041064190 : Nat := 0
def PySem.W.Fast.tw3089323669915202091 : Nat := 0
def PySem.W.Fast.tw4953691167135880531 : Nat := 0
def PySem.W.Fast.tw9617085184503976977 : Nat := 0
def PySem.W.Fast.tw12157089264915942459 : Nat := 0
def PySem.W.Fast.tw6330397196022510623 : Nat := 0
def PySem.W.Fast.tw8029896855524407947 : Nat := 0
def PySem.W.Fast.tw6135182316263613901 : Nat := 0
def PySem.W.Fast.tw10652643366753721306 : Nat := 0
def PySem.W.Fast.tw3772647759316534799 : Nat := 0
def PySem.W.Fast.tw11626665063966730117 : Nat := 0
def PySem.W.Fast.tw14894682568326022554 : Nat := 0
def PySem.W.Fast.tw3952538397941739997 : Nat := 0
def PySem.W.Fast.tw1002354713164539079 : Nat := 0
def PySem.W.Fast.tw165842550610410617 : Nat := 0
def PySem.W.Fast.tw17639060757893140986 : Nat := 0
def PySem.W.Fast.tw11727041435563913073 : Nat := 0
def PySem.W.Fast.tw12909340928712006395 : Nat := 0
def PySem.W.Fast.tw5860464842738782432 : Nat := 0
def PySem.W.Fast.tw12373482768908955148 : Nat := 0
def PySem.W.Fast.tw6413715651290042126 : Nat := 0
def PySem.W.Fast.tw16901270739782266638 : Nat := 0
def PySem.W.Fast.tw16955600392041713560 : Nat := 0
def PySem.W.Fast.tw4989078174970834822 : Nat := 0
def PySem.W.Fast.tw9424677616767176581 : Nat := 0
def PySem.W.Fast.tw4165183960045181301 : Nat := 0
def PySem.W.Fast.tw14227069764309968393 : Nat := 0
def PySem.W.Fast.tw16031830829707938145 : Nat := 0
def PySem.W.Fast.tw7824807953319903361 : Nat := 0
def PySem.W.Fast.tw18169039417671204413 : Nat := 0
def PySem.W.Fast.tw3716409510114831009 : Nat := 0
def PySem.W.Fast.tw13471268429250047280 : Nat := 0
def PySem.W.Fast.tw2579822786637632290 : Nat := 0
def PySem.W.Fast.tw12553233528956104501 : Nat := 0
def PySem.W.Fast.tw3504115072469479778 : Nat := 0
def PySem.W.Fast.tw7963621699983933759 : Nat := 0
def PySem.W.Fast.tw7629214428300013379 : Nat := 0
def PySem.W.Fast.tw4043004756807015865 : Nat := 0
def PySem.W.Fast.tw12541258945605044240 : Nat := 0
def PySem.W.Fast.tw8925070699465988969 : Nat := 0
def PySem.W.Fast.tw2035112846807500586 : Nat := 0
def PySem.W.Fast.tw16435139933116146019 : Nat := 0
def PySem.W.Fast.tw5236508543741200690 : Nat := 0
def PySem.W.Fast.tw10723387461594709884 : Nat := 0
def PySem.W.Fast.tw8296204773258930906 : Nat := 0
def PySem.W.Fast.tw8135524108851347844 : Nat := 0
def PySem.W.Fast.tw869377922254951337 : Nat := 0
def PySem.W.Fast.tw13360941442537132079 : Nat := 0
def PySem.W.Fast.tw16522964827277883437 : Nat := 0
def PySem.W.Fast.tw2051355421836042764 : Nat := 0
def PySem.W.Fast.tw10519885997189595015 : Nat := 0
def PySem.W.Fast.tw13613409846501876747 : Nat := 0
def PySem.W.Fast.tw2911581645906597804 : Nat := 0
def PySem.W.Fast.tw10265674155601252500 : Nat := 0
def PySem.W.Fast.tw16607881618585584959 : Nat := 0
def PySem.W.Fast.tw2823898607130688851 : Nat := 0
def PySem.W.Fast.tw736587883731221237 : Nat := 0
def PySem.W.Fast.tw690331455961305638 : Nat := 0
def PySem.W.Fast.tw1987966112449919307 : Nat := 0
def PySem.W.Fast.tw6375609866577430740 : Nat := 0
def PySem.W.Fast.tw8402050450108160299 : Nat := 0
def PySem.W.Fast.tw7188394713219957559 : Nat := 0
def PySem.W.Fast.tw12897801106633832799 : Nat := 0
def PySem.W.Fast.tw5864881468876365998 : Nat := 0
def PySem.W.Fast.tw2212510091689748277 : Nat := 0
def PySem.W.Fast.tw15329086364100311465 : Nat := 0
def PySem.W.Fast.tw5114728935540670392 : Nat := 0
def PySem.W.Fast.tw16599998541429583549 : Nat := 0
def PySem.W.Fast.tw9645378273094394210 : Nat := 0
def PySem.W.Fast.tw8244444281796951238 : Nat := 0
def PySem.W.Fast.tw15493666855426126961 : Nat := 0
def PySem.W.Fast.tw5006913579227407064 : Nat := 0
def PySem.W.Fast.tw15394808362855580830 : Nat := 0
def PySem.W.Fast.tw4314399462420048106 : Nat := 0
def PySem.W.Fast.tw5322569176333417387 : Nat := 0
def PySem.W.Fast.tw16660652214555932141 : Nat := 0
def PySem.W.Fast.tw14224569842219565261 : Nat := 0
def PySem.W.Fast.tw16370810727432091116 : Nat := 0
def PySem.W.Fast.tw16465462065507863175 : Nat := 0
def PySem.W.Fast.tw6986969304720557586 : Nat := 0
def PySem.W.Fast.tw17332960390844177595 : Nat := 0
def PySem.W.Fast.tw17014114275174911886 : Nat := 0
def PySem.W.Fast.tw999510342547146851 : Nat := 0
def PySem.W.Fast.tw706659243708545937 : Nat := 0
def PySem.W.Fast.tw1059886802595179260 : Nat := 0
def PySem.W.Fast.tw4191871771061086853 : Nat := 0
def PySem.W.Fast.tw17413667459778033748 : Nat := 0
def PySem.W.Fast.tw17501873622903287370 : Nat := 0
def PySem.W.Fast.tw13530950325200807838 : Nat := 0
def PySem.W.Fast.tw5272153692240458568 : Nat := 0
def PySem.W.Fast.tw1681921761554629319 : Nat := 0
def PySem.W.Fast.tw14942797549305998926 : Nat := 0
def PySem.W.Fast.tw16587288809306186199 : Nat := 0
def PySem.W.Fast.tw5928707648112408605 : Nat := 0
def PySem.W.Fast.tw2754086603071206558 : Nat := 0
def PySem.W.Fast.tw8118468813505357144 : Nat := 0
def PySem.W.Fast.tw4912743864529046800 : Nat := 0
def PySem.W.Fast.tw1846635813123936812 : Nat := 0
def PySem.W.Fast.tw243363583116183356 : Nat := 0
def PySem.W.Fast.tw1880451431167541368 : Nat := 0
def PySem.W.Fast.tw1427797223676595913 : Nat := 0
def PySem.W.Fast.tw13449950099000276220 : Nat := 0
def PySem.W.Fast.tw11493030925001357102 : Nat := 0
def PySem.W.Fast.tw16203502761610908200 : Nat := 0
def PySem.W.Fast.tw16667421741635359144 : Nat := 0
def PySem.W.Fast.tw5855353693242550648 : Nat := 0
def PySem.W.Fast.tw8645013448685498152 : Nat := 0
def PySem.W.Fast.tw9269428429782947888 : Nat := 0
def PySem.W.Fast.tw2190304442371765377 : Nat := 0
def PySem.W.Fast.tw5348666592307006635 : Nat := 0
def PySem.W.Fast.tw10749561940854305772 : Nat := 0
def PySem.W.Fast.tw15530778931101589765 : Nat := 0
def PySem.W.Fast.tw917627285738004731 : Nat := 0
def PySem.W.Fast.tw604001060374195794 : Nat := 0
def PySem.W.Fast.tw9165756972354945914 : Nat := 0
def PySem.W.Fast.tw7612007001218907481 : Nat := 0
def PySem.W.Fast.tw9965930200818697730 : Nat := 0
def PySem.W.Fast.tw7735628668175364845 : Nat := 0
def PySem.W.Fast.tw9073613606271194124 : Nat := 0
def PySem.W.Fast.tw3164852683890378248 : Nat := 0
def PySem.W.Fast.tw285470975038108388 : Nat := 0
def PySem.W.Fast.tw7733905131511850707 : Nat := 0
def PySem.W.Fast.tw3783437064527563087 : Nat := 0
def PySem.W.Fast.tw16986859590602516983 : Nat := 0
def PySem.W.Fast.tw12288684292021504755 : Nat := 0
def PySem.W.Fast.tw6411282673788795910 : Nat := 0
def PySem.W.Fast.tw7524579066203100336 : Nat := 0
def PySem.W.Fast.tw14731021961472988821 : Nat := 0
def PySem.W.Fast.tw13604301080644416843 : Nat := 0
def PySem.W.Fast.tw13159853152582758518 : Nat := 0
def PySem.W.Fast.tw15318164235490936941 : Nat := 0
def PySem.W.Fast.tw1766054141112975717 : Nat := 0
def PySem.W.Fast.tw6956910172483277385 : Nat := 0
def PySem.W.Fast.tw2208979160764247798 : Nat := 0
def PySem.W.Fast.tw8230370983887652344 : Nat := 0
def PySem.W.Fast.tw10380461203621948075 : Nat := 0
def PySem.W.Fast.tw145336064712743113 : Nat := 0
def PySem.W.Fast.tw14353994583512090134 : Nat := 0
def PySem.W.Fast.tw14382490261258013271 : Nat := 0
def PySem.W.Fast.tw16189412137600161544 : Nat := 0
def PySem.W.Fast.tw2140433272161391759 : Nat := 0
def PySem.W.Fast.tw4004365374321457173 : Nat := 0
def PySem.W.Fast.tw12503034380304813625 : Nat := 0
def PySem.W.Fast.tw2080649391308599235 : Nat := 0
def PySem.W.Fast.tw12662417179721079211 : Nat := 0
def PySem.W.Fast.tw6721326948156139105 : Nat := 0
def PySem.W.Fast.tw8871303407816347426 : Nat := 0
def PySem.W.Fast.tw5668424611084784667 : Nat := 0
def PySem.W.Fast.tw6077387323952637122 : Nat := 0
def PySem.W.Fast.tw2674959040880694609 : Nat := 0
def PySem.W.Fast.tw16448076017014714263 : Nat := 0
def PySem.W.Fast.tw12325903215895282135 : Nat := 0
def PySem.W.Fast.tw9228756288529715533 : Nat := 0
def PySem.W.Fast.tw7713957881684228222 : Nat := 0
def PySem.W.Fast.tw5614264485877410446 : Nat := 0
def PySem.W.Fast.tw14333413013767392119 : Nat := 0
def PySem.W.Fast.tw10132490019645694998 : Nat := 0
def PySem.W.Fast.tw4866792205345152091 : Nat := 0
def PySem.W.Fast.tw116446800242134259 : Nat := 0
def PySem.W.Fast.tw9161995548547882151 : Nat := 0
def PySem.W.Fast.tw11068102092941915898 : Nat := 0
def PySem.W.Fast.tw13470529267093591985 : Nat := 0
def PySem.W.Fast.tw1194637711260835332 : Nat := 0
def PySem.W.Fast.tw15624801744839500660 : Nat := 0
def PySem.W.Fast.tw18291342103833514277 : Nat := 0
def PySem.W.Fast.tw17126840897198560025 : Nat := 0
def PySem.W.Fast.tw15420369805281679828 : Nat := 0
def PySem.W.Fast.tw4705985414488096863 : Nat := 0
def PySem.W.Fast.tw14475589050151011012 : Nat := 0
def PySem.W.Fast.tw10566673733318586356 : Nat := 0
def PySem.W.Fast.tw332429753936111396 : Nat := 0
def PySem.W.Fast.tw17114748658011647810 : Nat := 0
def PySem.W.Fast.tw1703997155262241230 : Nat := 0
def PySem.W.Fast.tw13153378034995229228 : Nat := 0
def PySem.W.Fast.tw569824355407927250 : Nat := 0
def PySem.W.Fast.tw8757225289075097812 : Nat := 0
def PySem.W.Fast.tw17530473682272249020 : Nat := 0
def PySem.W.Fast.tw11909428872887495048 : Nat := 0
def PySem.W.Fast.tw1820331154666221000 : Nat := 0
def PySem.W.Fast.tw357900532273690113 : Nat := 0
def PySem.W.Fast.tw17808295305092433260 : Nat := 0
def PySem.W.Fast.tw8754033143748901657 : Nat := 0
def PySem.W.Fast.tw15084871225354955141 : Nat := 0
def PySem.W.Fast.tw14686519961042867353 : Nat := 0
def PySem.W.Fast.tw5550838944077363344 : Nat := 0
def PySem.W.Fast.tw2570704587847364786 : Nat := 0
def PySem.W.Fast.tw6997030849724226121 : Nat := 0
def PySem.W.Fast.tw14789260740843796277 : Nat := 0
def PySem.W.Fast.tw5369300217730019027 : Nat := 0
def PySem.W.Fast.tw6559360117660115804 : Nat := 0
def PySem.W.Fast.tw12674126791076571519 : Nat := 0
def PySem.W.Fast.tw18236189583817349819 : Nat := 0
def PySem.W.Fast.tw3010604471215607389 : Nat := 0
def PySem.W.Fast.tw7407403380535524296 : Nat := 0
def PySem.W.Fast.tw5000324792802645964 : Nat := 0
def PySem.W.Fast.tw16517505602691130397 : Nat := 0
def PySem.W.Fast.tw18311609658487381159 : Nat := 0
def PySem.W.Fast.tw14157792198012293383 : Nat := 0
def PySem.W.Fast.tw2193487916833980472 : Nat := 0
def PySem.W.Fast.tw6644506013403233345 : Nat := 0
def PySem.W.Fast.tw5430379994175349842 : Nat := 0
def PySem.W.Fast.tw11652974903016357338 : Nat := 0
def PySem.W.Fast.tw9496331140417624161 : Nat := 0
def PySem.W.Fast.tw10888969819817629528 : Nat := 0
def PySem.W.Fast.tw17814526707450204862 : Nat := 0
def PySem.W.Fast.tw9604959112220795188 : Nat := 0
def PySem.W.Fast.tw12565397965292968495 : Nat := 0
def PySem.W.Fast.tw9361442054562378819 : Nat := 0
def PySem.W.Fast.tw7950444597297704476 : Nat := 0
def PySem.W.Fast.tw13027438424531136969 : Nat := 0
def PySem.W.Fast.tw11264310766482225645 : Nat := 0
def PySem.W.Fast.tw10980779134507680486 : Nat := 0
def PySem.W.Fast.tw17030949293647613142 : Nat := 0
def PySem.W.Fast.tw6884245273641118427 : Nat := 0
def PySem.W.Fast.tw1792984537088236265 : Nat := 0
def PySem.W.Fast.tw16529764378456394765 : Nat := 0
def PySem.W.Fast.tw707577010233058084 : Nat := 0
def PySem.W.Fast.tw18361809929833195612 : Nat := 0
def PySem.W.Fast.tw5916097538052386938 : Nat := 0
def PySem.W.Fast.tw12196624564335701198 : Nat := 0
def PySem.W.Fast.tw12046911877093046289 : Nat := 0
def PySem.W.Fast.tw12053065828560598816 : Nat := 0
def PySem.W.Fast.tw5469637344028828748 : Nat := 0
def PySem.W.Fast.tw6928947264296490825 : Nat := 0
def PySem.W.Fast.tw1342975245448652165 : Nat := 0
def PySem.W.Fast.tw9491512463633412054 : Nat := 0
def PySem.W.Fast.tw9581050273149117551 : Nat := 0
def PySem.W.Fast.tw4009797147979546349 : Nat := 0
def PySem.W.Fast.tw8833329538617693972 : Nat := 0
def PySem.W.Fast.tw9867954175489240401 : Nat := 0
def PySem.W.Fast.tw16714385782796666958 : Nat := 0
def PySem.W.Fast.tw9675638429190986343 : Nat := 0
def PySem.W.Fast.tw10532661264779365044 : Nat := 0
def PySem.W.Fast.tw10540789298675224671 : Nat := 0
def PySem.W.Fast.tw15067646848760133183 : Nat := 0
def PySem.W.Fast.tw9074130686385366006 : Nat := 0
def PySem.W.Fast.tw5198460236069214743 : Nat := 0
def PySem.W.Fast.tw16465210092398647846 : Nat := 0
def PySem.W.Fast.tw16668649992803009510 : Nat := 0
def PySem.W.Fast.tw9026701155649413520 : Nat := 0
def PySem.W.Fast.tw6393664892892875127 : Nat := 0
def PySem.W.Fast.tw1089802484453147059 : Nat := 0
def PySem.W.Fast.tw1207140738539909564 : Nat := 0
def PySem.W.Fast.tw7824468901744499220 : Nat := 0
def PySem.W.Fast.tw12189086058422356493 : Nat := 0
def PySem.W.Fast.tw10974327759058822906 : Nat := 0
def PySem.W.Fast.tw4201098239798025045 : Nat := 0
def PySem.W.Fast.tw16010373671957430316 : Nat := 0
def PySem.W.Fast.tw3777138533703761529 : Nat := 0
def PySem.W.Fast.tw16483370685689040517 : Nat := 0
def PySem.W.Fast.tw16903169785984660117 : Nat := 0
def PySem.W.Fast.tw7656425814306280715 : Nat := 0
def PySem.W.Fast.tw17385451100585334427 : Nat := 0
def PySem.W.Fast.tw1628602777667841298 : Nat := 0
def PySem.W.Fast.tw13969967036015755765 : Nat := 0
def PySem.W.Fast.tw10772201603079005065 : Nat := 0
def PySem.W.Fast.tw8814406042797368237 : Nat := 0
def PySem.W.Fast.tw17424925400719176383 : Nat := 0
def PySem.W.Fast.tw12769018711527029314 : Nat := 0
def PySem.W.Fast.tw4789230514606995421 : Nat := 0
def PySem.W.Fast.tw7589855866955678714 : Nat := 0
def PySem.W.Fast.tw15104018652332667584 : Nat := 0
def PySem.W.Fast.tw4087403775072280361 : Nat := 0
def PySem.W.Fast.tw17782684816947946600 : Nat := 0
def PySem.W.Fast.tw15172093777651191737 : Nat := 0
def PySem.W.Fast.tw9587992156649961036 : Nat := 0
def PySem.W.Fast.tw17217841455027135618 : Nat := 0
def PySem.W.Fast.tw15222898980903030558 : Nat := 0
def PySem.W.Fast.tw3924027216692511585 : Nat := 0
def PySem.W.Fast.tw1870628179303262723 : Nat := 0
def PySem.W.Fast.tw8824246457880621234 : Nat := 0
def PySem.W.Fast.tw15726270051866270517 : Nat := 0
def PySem.W.Fast.tw1605711760133765197 : Nat := 0
def PySem.W.Fast.tw9648923707081939495 : Nat := 0
def PySem.W.Fast.tw102814406206444936 : Nat := 0
def PySem.W.Fast.tw930676106732472975 : Nat := 0
def PySem.W.Fast.tw4993028610129911656 : Nat := 0
def PySem.W.Fast.tw5853424528103490082 : Nat := 0
def PySem.W.Fast.tw5730369708245517355 : Nat := 0
def PySem.W.Fast.tw2916455688410312925 : Nat := 0
def PySem.W.Fast.tw7007199211866653652 : Nat := 0
def PySem.W.Fast.tw2404031556219316460 : Nat := 0
def PySem.W.Fast.tw3723146904733817312 : Nat := 0
def PySem.W.Fast.tw9832620202693005896 : Nat := 0
def PySem.W.Fast.tw13392402362877405776 : Nat := 0
def PySem.W.Fast.tw2685953902676756035 : Nat := 0
def PySem.W.Fast.tw13346645990614542139 : Nat := 0
def PySem.W.Fast.tw3816120241925112109 : Nat := 0
def PySem.W.Fast.tw8184129310960256552 : Nat := 0
def PySem.W.Fast.tw2373268147562627103 : Nat := 0
def PySem.W.Fast.tw5017314940445482222 : Nat := 0
def PySem.W.Fast.tw17591371577248396501 : Nat := 0
def PySem.W.Fast.tw18101988695942765957 : Nat := 0
def PySem.W.Fast.tw3966540925878615893 : Nat := 0
def PySem.W.Fast.tw10555824426400131202 : Nat := 0
def PySem.W.Fast.tw12573439739635308212 : Nat := 0
def PySem.W.Fast.tw107015093623740445 : Nat := 0
def PySem.W.Fast.tw8541944324212604604 : Nat := 0
def PySem.W.Fast.tw5448930385914412469 : Nat := 0
def PySem.W.Fast.tw1179101285488779448 : Nat := 0
def PySem.W.Fast.tw17254088246516892915 : Nat := 0
def PySem.W.Fast.tw3537667499915280518 : Nat := 0
def PySem.W.Fast.tw14231399377110932165 : Nat := 0
def PySem.W.Fast.tw12137094310577758228 : Nat := 0
def PySem.W.Fast.tw13513893477552289938 : Nat := 0
def PySem.W.Fast.tw11697315664697057673 : Nat := 0
def PySem.W.Fast.tw2255344130502783028 : Nat := 0
def PySem.W.Fast.tw6443170932771969283 : Nat := 0
def PySem.W.Fast.tw7524644296215750996 : Nat := 0
def PySem.W.Fast.tw8965069874848683589 : Nat := 0
def PySem.W.Fast.tw3866562296646702186 : Nat := 0
def PySem.W.Fast.tw6866731770599236283 : Nat := 0
def PySem.W.Fast.tw17508105764011661850 : Nat := 0
def PySem.W.Fast.tw18319178059991596340 : Nat := 0
def PySem.W.Fast.tw2157326931072989874 : Nat := 0
def PySem.W.Fast.tw7686439057567718371 : Nat := 0
def PySem.W.Fast.tw10573707014240432176 : Nat := 0
def PySem.W.Fast.tw15682813411204286356 : Nat := 0
def PySem.W.Fast.tw6701495593574026995 : Nat := 0
def PySem.W.Fast.tw8082709898551971451 : Nat := 0
def PySem.W.Fast.tw4901592934045764196 : Nat := 0
def PySem.W.Fast.tw14781726322179459523 : Nat := 0
def PySem.W.Fast.tw15869217161069563754 : Nat := 0
def PySem.W.Fast.tw3841886093978661536 : Nat := 0
def PySem.W.Fast.tw2748293037890985047 : Nat := 0
def PySem.W.Fast.tw13121669800791052075 : Nat := 0
def PySem.W.Fast.tw2665233635195633731 : Nat := 0
def PySem.W.Fast.tw18376479614836689900 : Nat := 0
def PySem.W.Fast.tw13366050530284976619 : Nat := 0
def PySem.W.Fast.tw1225135706234797732 : Nat := 0
def PySem.W.Fast.tw28585870435310590 : Nat := 0
def PySem.W.Fast.tw8274565780231138522 : Nat := 0
def PySem.W.Fast.tw17410267318810364194 : Nat := 0
def PySem.W.Fast.tw907325218853679955 : Nat := 0
def PySem.W.Fast.tw16661890662284306715 : Nat := 0
def PySem.W.Fast.tw4818593474120424515 : Nat := 0
def PySem.W.Fast.tw1194685016861588249 : Nat := 0
def PySem.W.Fast.tw17375679554794580231 : Nat := 0
def PySem.W.Fast.tw12413943261468690607 : Nat := 0
def PySem.W.Fast.tw10505462342882236325 : Nat := 0
def PySem.W.Fast.tw3792074568680724434 : Nat := 0
def PySem.W.Fast.tw2562011543501780032 : Nat := 0
def PySem.W.Fast.tw11592399641066887191 : Nat := 0
def PySem.W.Fast.tw7655988945217408482 : Nat := 0
def PySem.W.Fast.tw8966813610028078473 : Nat := 0
def PySem.W.Fast.tw895510826411840104 : Nat := 0
def PySem.W.Fast.tw5454764649530789535 : Nat := 0
def PySem.W.Fast.tw4804875424580887729 : Nat := 0
def PySem.W.Fast.tw9471856566825143647 : Nat := 0
def PySem.W.Fast.tw6549406768700574730 : Nat := 0
def PySem.W.Fast.tw11930656106465021942 : Nat := 0
def PySem.W.Fast.tw5520148514345080526 : Nat := 0
def PySem.W.Fast.tw6119824415433870141 : Nat := 0
def PySem.W.Fast.tw3456849904819269393 : Nat := 0
def PySem.W.Fast.tw2928292780456517263 : Nat := 0
def PySem.W.Fast.tw8124872649387084987 : Nat := 0
def PySem.W.Fast.tw5925009079586833520 : Nat := 0
def PySem.W.Fast.tw14775635162383256839 : Nat := 0
def PySem.W.Fast.tw11586903374797790119 : Nat := 0
def PySem.W.Fast.tw915803851384428236 : Nat := 0
def PySem.W.Fast.tw9432085864698235657 : Nat := 0
def PySem.W.Fast.tw15385332738676003708 : Nat := 0
def PySem.W.Fast.tw11895065431796372782 : Nat := 0
def PySem.W.Fast.tw13601480792574814655 : Nat := 0
def PySem.W.Fast.tw4709260570704855926 : Nat := 0
def PySem.W.Fast.tw3981258746276593767 : Nat := 0
def PySem.W.Fast.tw18315087456260024838 : Nat := 0
def PySem.W.Fast.tw5698455992231553005 : Nat := 0
def PySem.W.Fast.tw3364195840378216023 : Nat := 0
def PySem.W.Fast.tw521532080644240868 : Nat := 0
def PySem.W.Fast.tw13397301086509123537 : Nat := 0
def PySem.W.Fast.tw102882598322074012 : Nat := 0
def PySem.W.Fast.tw7980528696729386096 : Nat := 0
def PySem.W.Fast.tw5479480666270304429 : Nat := 0
def PySem.W.Fast.tw11202797446013596021 : Nat := 0
def PySem.W.Fast.tw12974267956591173963 : Nat := 0
def PySem.W.Fast.tw6626419513679702473 : Nat := 0
def PySem.W.Fast.tw550103744669949865 : Nat := 0
def PySem.W.Fast.tw4436847162700554223 : Nat := 0
def PySem.W.Fast.tw4585019811316938756 : Nat := 0
def PySem.W.Fast.tw9643209385872004698 : Nat := 0
def PySem.W.Fast.tw7078823195606224281 : Nat := 0
def PySem.W.Fast.tw6501589686221344967 : Nat := 0
def PySem.W.Fast.tw3192988588494985184 : Nat := 0
def PySem.W.Fast.tw15517627268605595762 : Nat := 0
def PySem.W.Fast.tw4243072012741731851 : Nat := 0
def PySem.W.Fast.tw7448918985182211240 : Nat := 0
def PySem.W.Fast.tw15546753169661496167 : Nat := 0
def PySem.W.Fast.tw16406018332521674375 : Nat := 0
def PySem.W.Fast.tw12227592449023457174 : Nat := 0
def PySem.W.Fast.tw7742242497915465926 : Nat := 0
def PySem.W.Fast.tw12965051600425051227 : Nat := 0
def PySem.W.Fast.tw3481016370713720712 : Nat := 0
def PySem.W.Fast.tw9781022754166323568 : Nat := 0
def PySem.W.Fast.tw8928376659742606097 : Nat := 0
def PySem.W.Fast.tw7414409823224980583 : Nat := 0
def PySem.W.Fast.tw13608566448453284911 : Nat := 0
def PySem.W.Fast.tw7977509254553903498 : Nat := 0
def PySem.W.Fast.tw7960496312078987083 : Nat := 0
def PySem.W.Fast.tw8284520938562320530 : Nat := 0
def PySem.W.Fast.tw7186172871382832219 : Nat := 0
def PySem.W.Fast.tw1130881350124205491 : Nat := 0
def PySem.W.Fast.tw17110262685562173689 : Nat := 0
def PySem.W.Fast.tw15295589907129152995 : Nat := 0
def PySem.W.Fast.tw14377585555667837699 : Nat := 0
def PySem.W.Fast.tw3009676591022549167 : Nat := 0
def PySem.W.Fast.tw350665505450462466 : Nat := 0
def PySem.W.Fast.tw533360058849335379 : Nat := 0
def PySem.W.Fast.tw4656586651920263124 : Nat := 0
def PySem.W.Fast.tw17198367274249093648 : Nat := 0
def PySem.W.Fast.tw6318862137094858453 : Nat := 0
def PySem.W.Fast.tw16680587339403958690 : Nat := 0
def PySem.W.Fast.tw17067446195704182186 : Nat := 0
def PySem.W.Fast.tw11980258947658554158 : Nat := 0
def PySem.W.Fast.tw11131929111419937942 : Nat := 0
def PySem.W.Fast.tw3997480769988716020 : Nat := 0
def PySem.W.Fast.tw8999749987899494050 : Nat := 0
def PySem.W.Fast.tw15083523037233723281 : Nat := 0
def PySem.W.Fast.tw4487093304653473295 : Nat := 0
def PySem.W.Fast.tw13339217959811552806 : Nat := 0
def PySem.W.Fast.tw10227472808043207369 : Nat := 0
def PySem.W.Fast.tw27383081489427668 : Nat := 0
def PySem.W.Fast.tw14144180192287862832 : Nat := 0
def PySem.W.Fast.tw15604377220330253309 : Nat := 0
def PySem.W.Fast.tw7607037299816604513 : Nat := 0
def PySem.W.Fast.tw8644002182555922528 : Nat := 0
def PySem.W.Fast.tw11437937684205337722 : Nat := 0
def PySem.W.Fast.tw9316652336471988058 : Nat := 0
def PySem.W.Fast.tw6318860743947757060 : Nat := 0
def PySem.W.Fast.tw796809850508890423 : Nat := 0
def PySem.W.Fast.tw6924152155329781041 : Nat := 0
def PySem.W.Fast.tw12070504715561729309 : Nat := 0
def PySem.W.Fast.tw7886796892310269326 : Nat := 0
def PySem.W.Fast.tw8476854352221314618 : Nat := 0
def PySem.W.Fast.tw13698905816727391951 : Nat := 0
def PySem.W.Fast.tw12853655776719080317 : Nat := 0
def PySem.W.Fast.tw13814011907314475611 : Nat := 0
def PySem.W.Fast.tw7289663461367268635 : Nat := 0
def PySem.W.Fast.tw4709807084173575908 : Nat := 0
def PySem.W.Fast.tw9459834959847498259 : Nat := 0
def PySem.W.Fast.tw1130971372742396168 : Nat := 0
def PySem.W.Fast.tw7107764564169298717 : Nat := 0
def PySem.W.Fast.tw12029902927434520006 : Nat := 0
def PySem.W.Fast.tw3236447407477784768 : Nat := 0
def PySem.W.Fast.tw10847031971284643620 : Nat := 0
def PySem.W.Fast.tw16905318424803268143 : Nat := 0
def PySem.W.Fast.tw14852152947758004404 : Nat := 0
def PySem.W.Fast.tw6796089161806376625 : Nat := 0
def PySem.W.Fast.tw13740934431090137145 : Nat := 0
def PySem.W.Fast.tw17987125234551488165 : Nat := 0
def PySem.W.Fast.tw14786207994217871870 : Nat := 0
def PySem.W.Fast.tw3238751113007704546 : Nat := 0
def PySem.W.Fast.tw7190321783602887434 : Nat := 0
def PySem.W.Fast.tw16712005593198774223 : Nat := 0
def PySem.W.Fast.tw149186635178407144 : Nat := 0
def PySem.W.Fast.tw18363638598195942576 : Nat := 0
def PySem.W.Fast.tw9999227534599150690 : Nat := 0
def PySem.W.Fast.tw3512726349963401460 : Nat := 0
def PySem.W.Fast.tw7215720438311930621 : Nat := 0
def PySem.W.Fast.tw5920183228192533343 : Nat := 0
def PySem.W.Fast.tw5994474629232194554 : Nat := 0
def PySem.W.Fast.tw7879167164377303662 : Nat := 0
def PySem.W.Fast.tw8874338587830582113 : Nat := 0
def PySem.W.Fast.tw40320970661717219 : Nat := 0
def PySem.W.Fast.tw346581785231348237 : Nat := 0
def PySem.W.Fast.tw15101219729471482516 : Nat := 0
def PySem.W.Fast.tw7748307634623432997 : Nat := 0
def PySem.W.Fast.tw16917503544275663023 : Nat := 0
def PySem.W.Fast.tw710723111952643683 : Nat := 0
def PySem.W.Fast.tw10332961200939538202 : Nat := 0
def PySem.W.Fast.tw14484791036459244972 : Nat := 0
def PySem.W.Fast.tw15860543462443206243 : Nat := 0
def PySem.W.Fast.tw14162396442146790257 : Nat := 0
def PySem.W.Fast.tw3517916706861481124 : Nat := 0
def PySem.W.Fast.tw9914051797025829244 : Nat := 0
def PySem.W.Fast.tw3213771025843508697 : Nat := 0
def PySem.W.Fast.tw13031449055977471279 : Nat := 0
def PySem.W.Fast.tw18173564258082723231 : Nat := 0
def PySem.W.Fast.tw10868064426502547138 : Nat := 0
def PySem.W.Fast.tw10723290274166676220 : Nat := 0
def PySem.W.Fast.tw18066947205949494702 : Nat := 0
def PySem.W.Fast.tw7829012511761332077 : Nat := 0
def PySem.W.Fast.tw16947757184806666351 : Nat := 0
def PySem.W.Fast.tw18404159135930582939 : Nat := 0
def PySem.W.Fast.tw16624474667369528405 : Nat := 0
def PySem.W.Fast.tw3558110461506127652 : Nat := 0
def PySem.W.Fast.tw8585686696851962959 : Nat := 0
def PySem.W.Fast.tw16931885357011759999 : Nat := 0
def PySem.W.Fast.tw1295514518636267908 : Nat := 0
def PySem.W.Fast.tw11329891624977063164 : Nat := 0
def PySem.W.Fast.tw16717288876672952629 : Nat := 0
def PySem.W.Fast.tw13505494640843202530 : Nat := 0
def PySem.W.Fast.tw16579017595497559479 : Nat := 0
def PySem.W.Fast.tw17435543578692190763 : Nat := 0
def PySem.W.Fast.tw8857117158478222923 : Nat := 0
def PySem.W.Fast.tw10709678326741197082 : Nat := 0
def PySem.W.Fast.tw359277435179448420 : Nat := 0
def PySem.W.Fast.tw7046864048412424006 : Nat := 0
def PySem.W.Fast.tw7311999266296342590 : Nat := 0
def PySem.W.Fast.tw4218009802433818618 : Nat := 0
def PySem.W.Fast.tw16224323151504282763 : Nat := 0
def PySem.W.Fast.tw10452084938018234564 : Nat := 0
def PySem.W.Fast.tw5682773036430287377 : Nat := 0
def PySem.W.Fast.tw15409455437793022185 : Nat := 0
def PySem.W.Fast.tw2777337079746609043 : Nat := 0
def PySem.W.Fast.tw4325540021211835682 : Nat := 0
def PySem.W.Fast.tw7895058444778134421 : Nat := 0
def PySem.W.Fast.tw9112803519613689034 : Nat := 0
def PySem.W.Fast.tw1624378630139479882 : Nat := 0
def PySem.W.Fast.tw9010908834238513812 : Nat := 0
def PySem.W.Fast.tw11592682037310351154 : Nat := 0
def PySem.W.Fast.tw10637107408238360957 : Nat := 0
def PySem.W.Fast.tw14380662210031596588 : Nat := 0
def PySem.W.Fast.tw8974793921284007014 : Nat := 0
def PySem.W.Fast.tw10390307903231647898 : Nat := 0
def PySem.W.Fast.tw8944339366645281205 : Nat := 0
def PySem.W.Fast.tw482417733384979577 : Nat := 0
def PySem.W.Fast.tw5377856198409388745 : Nat := 0
def PySem.W.Fast.tw7809257831474802685 : Nat := 0
def PySem.W.Fast.tw12614419648806735744 : Nat := 0
def PySem.W.Fast.tw5828492735190726341 : Nat := 0
def PySem.W.Fast.tw5168686932506072227 : Nat := 0
def PySem.W.Fast.tw10276371138012836163 : Nat := 0
def PySem.W.Fast.tw2635542043513975185 : Nat := 0
def PySem.W.Fast.tw10843186972818611044 : Nat := 0
def PySem.W.Fast.tw4913035070318295231 : Nat := 0
def PySem.W.Fast.tw2004238203679077284 : Nat := 0
def PySem.W.Fast.tw9668636784305464980 : Nat := 0
def PySem.W.Fast.tw6107731059894242397 : Nat := 0
def PySem.W.Fast.tw11563809710503311426 : Nat := 0
def PySem.W.Fast.tw13315056880986801352 : Nat := 0
namespace K24e
open PySem PySem.W PyProof.Rows
open_top head for PySem.Challenge.rw_drawclaims_k24_constants_and_errors_made
end K24e
set_option Elab.async false
set_option linter.all false
set_option maxRecDepth 100000
set_option maxHeartbeats 4000000
namespace GX
open PySem PySem.Spec PyProof.Rows L2
def isI : V → Bool
  | .int _ => true
  | _ => false
/-- the values that this law uses, and what isinstance says of them -/
structure Pl (K : PySem.W.Frag) (H : Hp) (x : V) : Prop where
  ex : ∃ (n : String) (b c : Bool), TyX K H x (.type n) ∧ PySem.W.kitOne K (.type n) (.type "int") = some b ∧ PySem.W.kitOne K (.type n) (.type "bool") = some c ∧ (b && !c) = isI x
/-- all but what stands at a is kept -/
def But (a : Addr) (H H' : Hp) : Prop := ∀ b o, b ≠ a → H b = some o → H' b = some o
theorem But.refl (a : Addr) (H : Hp) : But a H H := fun _ _ _ h => h
theorem But.trans {a : Addr} {H H1 H2 : Hp} (x : But a H H1) (y : But a H1 H2) : But a H H2 := fun b o n h => y b o n (x b o n h)
theorem But.of {a : Addr} {H H1 : Hp} (y : Same H H1) : But a H H1 := fun b o n h => y b o h
theorem But.set {a : Addr} {H H1 : Hp} {o : HO} (x : But a H H1) : But a H (upd H1 a o) := fun b u n h => by
  rw [upd_ne n]
  exact x b u n h
theorem same_new {H : Hp} {p : Addr} {o : HO} (h : H p = none) : Same H (upd H p o) := fun b x e => by
  rw [upd_ne (ne_of_none e h)]
  exact e
/-- a purse -/
def Bag (H : Hp) (a : Addr) : Prop := ∃ z g c : Int, H a = some (.lst [.int z, .int g, .int c]) ∧ 0 ≤ g
theorem Bag.keep {H H' : Hp} {a : Addr} (b : Bag H a) (s : Same H H') : Bag H' a := by
  obtain ⟨z, g, c, h, n⟩ := b
  exact ⟨z, g, c, s a _ h, n⟩
theorem tyx_mono {K : PySem.W.Frag} {H H' : Hp} {x : V} {t : Value} (s : Same H H') (h : TyX K H x t) : TyX K H' x t := by
  cases h with
  | base h =>
    refine .base ?_
    cases h with
    | non => exact .non
    | bl b => exact .bl b
    | int i => exact .int i
    | str x => exact .str x
    | flt x => exact .flt x
    | lst e => exact .lst (s _ _ e)
    | frz e => exact .frz (s _ _ e)
    | tup e => exact .tup (s _ _ e)
    | dK e => exact .dK (s _ _ e)
    | dT e => exact .dT (s _ _ e)
    | ins e c a n k m => exact .ins (s _ _ e) c a n k m
  | byt b => exact .byt b
  | set e => exact .set (s _ _ e)
  | kList e c => exact .kList e c
  | kTuple e c => exact .kTuple e c
  | kDict e c => exact .kDict e c
  | fTuple e => exact .fTuple (s _ _ e)
  | fDict e => exact .fDict (s _ _ e)
theorem Pl.keep {K : PySem.W.Frag} {H H' : Hp} {x : V} (p : Pl K H x) (s : Same H H') : Pl K H' x := by
  obtain ⟨n, b, c, ty, k1, k2, e⟩ := p
  exact ⟨n, b, c, tyx_mono s ty, k1, k2, e⟩
theorem Bag.ne {H : Hp} {a p : Addr} (b : Bag H a) (h : H p = none) : p ≠ a := by
  obtain ⟨z, g, c, e, _⟩ := b
  exact (ne_of_none e h).symm
theorem room_u {Z : Around} {k : Nat} (h : Room k Z) : Z.units + 110 < cLine := by
  have := h.un
  omega
end GX
set_option Elab.async false
set_option linter.all false
set_option maxRecDepth 100000
set_option maxHeartbeats 4000000
namespace MX
open PySem PySem.Spec PyProof.Rows L2 GX
/-- the tables of code objects that the law's lambdas go to -/
class TabL where
  tabs : List (Addr × Str)
  /-- what is so all the while: a made function stands, the cells that it has -/
  inv : Hp → Prop
  mono : ∀ G G', Same G G' → inv G → inv G'
  del : ∀ (G : Hp) (a : Addr) (od : Obj) (fs : List (Key × V)), G a = some (.frz od (.dK fs)) → inv G → inv (fun b => if b = a then none else G b)
abbrev tabOf (l : List (Addr × Str)) : TabL := ⟨l, fun _ => True, fun _ _ _ h => h, fun _ _ _ _ _ h => h⟩
instance (priority := low) noTab : TabL := tabOf []
def NtF [TabL] (G : Hp) : Prop := (∀ a ps, G a ≠ some (.tbl ps)) ∧ TabL.inv G
/-- the class (or another thing) that the module's name C holds -/
def nm (K : PySem.W.Frag) (C : Str) : Addr := match PySem.W.nsIn K mainGlobals C with
  | some (some (.ref a)) => a
  | _ => 0
inductive T where
  | non | bl (b : Bool) | int (i : Int) | str (x : Str) | ty (n : String) | adr (a : Addr)
  | tup (ts : List T) | lst (ts : List T) | lsk (ts : List T) | obj (C : Str) (fs : List (Str × T)) | cls (C : Str)
  | exc (a d : Addr) (C : Str) (fs : List (Str × T))
  | edc
  | dct (kvs : List (Key × T))
  | set (ns : List Int)
  | err (C : Str) (fs : List (Str × T))
/-- the set of ints at a, whatever the world -/
def SetW (a : Addr) (ns : List Int) : HO := .ext fun h => ∀ (P : Program) (w : World), ∃ n, h.SetOf (intKind P w) a (fun j => decide (j ∈ ns)) n
/-- the dict of an error that is held, where it has one -/
def XdAt (G : Hp) (od : Option Addr) (fs : List (Str × V)) : Prop := (od = none ∧ fs = []) ∨ ∃ d, od = some d ∧ G d = some (exd d fs)
mutual
inductive Rep (K : PySem.W.Frag) (G : Hp) : V → T → Prop
  | non : Rep K G .non .non
  | bl (b : Bool) : Rep K G (.bl b) (.bl b)
  | int (i : Int) : Rep K G (.int i) (.int i)
  | str (x : Str) : Rep K G (.str x) (.str x)
  | ty (n : String) : Rep K G (.ty n) (.ty n)
  | adr (a : Addr) : Rep K G (.ref a) (.adr a)
  | tup {a : Addr} {vs : List V} {ts : List T} : SqT K G a vs → Reps K G vs ts → Rep K G (.ref a) (.tup ts)
  | lst {a : Addr} {vs : List V} {ts : List T} : G a = some (.lst vs) → Reps K G vs ts → Rep K G (.ref a) (.lst ts)
  | lsk {a : Addr} {vs : List V} {ts : List T} : SqL K G a vs → Reps K G vs ts → Rep K G (.ref a) (.lsk ts)
  | obj {a dx : Addr} {C : Str} {fs : List (Str × V)} {gs : List (Str × T)} : G a = some (.ins (nm K C) dx fs) → RepF K G fs gs → Rep K G (.ref a) (.obj C gs)
  | cls (C : Str) : Rep K G (.ref (nm K C)) (.cls C)
  | exc {a d : Addr} {C : Str} {fs : List (Str × V)} {gs : List (Str × T)} : G d = some (.xd fs) → RepF K G fs gs → Rep K G (.ref a) (.exc a d C gs)
  | edc {a : Addr} : G a = some (.dK []) → Rep K G (.ref a) .edc
  | dct {a : Addr} {kvs : List (Key × V)} {gs : List (Key × T)} : G a = some (.dK kvs) → RepD K G kvs gs → Rep K G (.ref a) (.dct gs)
  | set {a : Addr} {ns : List Int} : G a = some (SetW a ns) → Rep K G (.ref a) (.set ns)
  | err {a : Addr} {od : Option Addr} {C : Str} {fs : List (Str × V)} {gs : List (Str × T)} : G a = some (exo a (nm K C) od) → XdAt G od fs → RepF K G fs gs → Rep K G (.ref a) (.err C gs)
inductive Reps (K : PySem.W.Frag) (G : Hp) : List V → List T → Prop
  | nil : Reps K G [] []
  | cons {v : V} {t : T} {vs : List V} {ts : List T} : Rep K G v t → Reps K G vs ts → Reps K G (v :: vs) (t :: ts)
inductive RepF (K : PySem.W.Frag) (G : Hp) : List (Str × V) → List (Str × T) → Prop
  | nil : RepF K G [] []
  | cons {x : Str} {v : V} {t : T} {vs : List (Str × V)} {ts : List (Str × T)} : Rep K G v t → RepF K G vs ts → RepF K G ((x, v) :: vs) ((x, t) :: ts)
inductive RepD (K : PySem.W.Frag) (G : Hp) : List (Key × V) → List (Key × T) → Prop
  | nil : RepD K G [] []
  | cons {x : Key} {v : V} {t : T} {vs : List (Key × V)} {ts : List (Key × T)} : Rep K G v t → RepD K G vs ts → RepD K G ((x, v) :: vs) ((x, t) :: ts)
end
theorem XdAt.mono {G G' : Hp} {od : Option Addr} {fs : List (Str × V)} (e : Same G G') (h : XdAt G od fs) : XdAt G' od fs := by
  rcases h with ⟨h1, h2⟩ | ⟨d, h1, h2⟩
  · exact .inl ⟨h1, h2⟩
  · exact .inr ⟨d, h1, e _ _ h2⟩
theorem seqT {K : PySem.W.Frag} {H H' : Hp} {a : Addr} {xs : List V} (e : Same H H') (h : SqT K H a xs) : SqT K H' a xs := by
  rcases h with (h | ⟨o, h⟩) | h
  · exact .inl (.inl (e _ _ h))
  · exact .inl (.inr ⟨o, e _ _ h⟩)
  · exact .inr h
section
variable {K : PySem.W.Frag} {G G' : Hp}
mutual
theorem Rep.mono (e : Same G G') : ∀ {v : V} {t : T}, Rep K G v t → Rep K G' v t
  | _, _, .non => .non
  | _, _, .bl b => .bl b
  | _, _, .int b => .int b
  | _, _, .str b => .str b
  | _, _, .ty b => .ty b
  | _, _, .adr b => .adr b
  | _, _, .tup h r => .tup (seqT e h) (Reps.mono e r)
  | _, _, .lst h r => .lst (e _ _ h) (Reps.mono e r)
  | _, _, .lsk h r => .lsk (e.seq h) (Reps.mono e r)
  | _, _, .obj h r => .obj (e _ _ h) (RepF.mono e r)
  | _, _, .cls C => .cls C
  | _, _, .exc h r => .exc (e _ _ h) (RepF.mono e r)
  | _, _, .edc h => .edc (e _ _ h)
  | _, _, .dct h r => .dct (e _ _ h) (RepD.mono e r)
  | _, _, .set h => .set (e _ _ h)
  | _, _, .err h x r => .err (e _ _ h) (x.mono e) (RepF.mono e r)
theorem Reps.mono (e : Same G G') : ∀ {v : List V} {t : List T}, Reps K G v t → Reps K G' v t
  | _, _, .nil => .nil
  | _, _, .cons h r => .cons (Rep.mono e h) (Reps.mono e r)
theorem RepF.mono (e : Same G G') : ∀ {v : List (Str × V)} {t : List (Str × T)}, RepF K G v t → RepF K G' v t
  | _, _, .nil => .nil
  | _, _, .cons h r => .cons (Rep.mono e h) (RepF.mono e r)
theorem RepD.mono (e : Same G G') : ∀ {v : List (Key × V)} {t : List (Key × T)}, RepD K G v t → RepD K G' v t
  | _, _, .nil => .nil
  | _, _, .cons h r => .cons (Rep.mono e h) (RepD.mono e r)
end
theorem Reps.len : ∀ {vs : List V} {ts : List T}, Reps K G vs ts → vs.length = ts.length
  | _, _, .nil => rfl
  | _, _, .cons _ r => by rw [List.length_cons, List.length_cons, Reps.len r]
theorem Reps.get : ∀ {vs : List V} {ts : List T} {i : Nat} {t : T}, Reps K G vs ts → ts[i]? = some t → ∃ v, vs[i]? = some v ∧ Rep K G v t
  | _, _, _, _, .nil, e => by simp at e
  | _, _, 0, _, .cons r _, e => by simp at e; subst e; exact ⟨_, rfl, r⟩
  | _, _, i + 1, x, .cons _ r, e => by
    obtain ⟨u, h1, h2⟩ := Reps.get (i := i) (t := x) r (by simpa using e)
    exact ⟨u, by simpa using h1, h2⟩
theorem Reps.app : ∀ {vs vs' : List V} {ts ts' : List T}, Reps K G vs ts → Reps K G vs' ts' → Reps K G (vs ++ vs') (ts ++ ts')
  | _, _, _, _, .nil, s => s
  | _, _, _, _, .cons r t, s => .cons r (Reps.app t s)
theorem Reps.snoc {vs : List V} {ts : List T} {v : V} {t : T} (h : Reps K G vs ts) (r : Rep K G v t) : Reps K G (vs ++ [v]) (ts ++ [t]) := h.app (.cons r .nil)
theorem Reps.take : ∀ {vs : List V} {ts : List T} (n : Nat), Reps K G vs ts → Reps K G (vs.take n) (ts.take n)
  | _, _, 0, _ => .nil
  | _, _, _ + 1, .nil => .nil
  | _, _, n + 1, .cons r t => .cons r (Reps.take n t)
theorem Reps.drop : ∀ {vs : List V} {ts : List T} (n : Nat), Reps K G vs ts → Reps K G (vs.drop n) (ts.drop n)
  | _, _, 0, r => r
  | _, _, _ + 1, .nil => .nil
  | _, _, n + 1, .cons _ t => Reps.drop n t
theorem Reps.set : ∀ {vs : List V} {ts : List T} {v : V} {t : T} (i : Nat), Rep K G v t → Reps K G vs ts → Reps K G (vs.set i v) (ts.set i t)
  | _, _, _, _, _, _, .nil => .nil
  | _, _, _, _, 0, r, .cons _ t => .cons r t
  | _, _, _, _, i + 1, r, .cons q t => .cons q (Reps.set i r t)
theorem Reps.ints : ∀ (ns : List Int), Reps K G (ns.map V.int) (ns.map T.int)
  | [] => .nil
  | n :: ns => .cons (.int n) (Reps.ints ns)
end
/-- what changes: an own list, an own instance -/
inductive OC where
  | lst (ts : List T) | ins (C : Str) (fs : List (Str × T)) | dct (kvs : List (Key × T))
def OC.fix : OC → T
  | .lst ts => .lst ts
  | .ins C fs => .obj C fs
  | .dct kvs => .dct kvs
inductive RepC (K : PySem.W.Frag) (G : Hp) : HO → OC → Prop
  | lst {vs : List V} {ts : List T} : Reps K G vs ts → RepC K G (.lst vs) (.lst ts)
  | ins {dx : Addr} {C : Str} {fs : List (Str × V)} {gs : List (Str × T)} : RepF K G fs gs → RepC K G (.ins (nm K C) dx fs) (.ins C gs)
  | dct {kvs : List (Key × V)} {gs : List (Key × T)} : RepD K G kvs gs → RepC K G (.dK kvs) (.dct gs)
theorem RepC.mono {K : PySem.W.Frag} {G G' : Hp} {o : HO} {c : OC} (e : Same G G') (h : RepC K G o c) : RepC K G' o c := by
  cases h with
  | lst r => exact .lst (r.mono e)
  | ins r => exact .ins (r.mono e)
  | dct r => exact .dct (r.mono e)
theorem repc_nt {K : PySem.W.Frag} {G : Hp} {o : HO} {c : OC} (h : RepC K G o c) : ∀ ps, o ≠ .tbl ps := by
  cases h with
  | lst => exact fun _ z => nomatch z
  | ins => exact fun _ z => nomatch z
  | dct => exact fun _ z => nomatch z
theorem RepC.fix {K : PySem.W.Frag} {G : Hp} {o : HO} {c : OC} {a : Addr} (h : RepC K G o c) (e : G a = some o) : Rep K G (.ref a) c.fix := by
  cases h with
  | lst r => exact .lst e r
  | ins r => exact .obj e r
  | dct r => exact .dct e r
/-- a slot: nothing; a thing that stays; a thing of its own; one of the caller's own -/
inductive SV where
  | no | fz (t : T) | ow (c : OC) | io (c : OC)
abbrev R := List SV
structure Bs where
  G : Hp
  H : Hp
  O : Addr → Prop
  pin : List (Nat × Addr)
def OwnAt (σ : L2.St) (ρ : R) (i : Nat) (a : Addr) : Prop := σ[i]? = some (some (.ref a)) ∧ ∃ c, ρ[i]? = some (.ow c) ∨ ρ[i]? = some (.io c)
def OwnsC (K : PySem.W.Frag) (G H : Hp) (v : Option V) (c : OC) : Prop := ∃ a o, v = some (.ref a) ∧ H a = some o ∧ RepC K G o c ∧ G a = none
def SlR (K : PySem.W.Frag) (G H : Hp) (v : Option V) : SV → Prop
  | .no => True
  | .fz t => ∃ u, v = some u ∧ Rep K G u t
  | .ow c => OwnsC K G H v c
  | .io c => OwnsC K G H v c
structure RS [TabL] (K : PySem.W.Frag) (B : Bs) (G H : Hp) (σ : L2.St) (ρ : R) : Prop where
  sub : Same G H
  len : σ.length = ρ.length
  rel : ∀ (i : Nat) (x : SV) (v : Option V), ρ[i]? = some x → σ[i]? = some v → SlR K G H v x
  dis : ∀ (i j : Nat) (a : Addr), i ≠ j → OwnAt σ ρ i a → OwnAt σ ρ j a → False
  keep : ∀ (a : Addr) (o : HO), B.H a = some o → ¬ B.O a → (∀ ps, o ≠ .tbl ps) → H a = some o
  all : ∀ (a : Addr), H a = none → B.H a = none
  own : ∀ (i : Nat) (a : Addr), OwnAt σ ρ i a → B.O a ∨ B.H a = none
  gs : Same B.G G
  gn : ∀ (a : Addr) (o : HO), G a = some o → B.G a = some o ∨ B.O a ∨ B.H a = none ∨ ∃ xs, o = .tup xs
  pin : ∀ (i : Nat) (a : Addr), (i, a) ∈ B.pin → σ[i]? = some (some (.ref a)) ∧ ∃ c, ρ[i]? = some (.io c)
  tb : LamX.Tabs TabL.tabs H
  nt : NtF G
/-- what an expression gives -/
inductive Vl where
  | val (t : T) | own (c : OC) | sl (i : Nat)
def Vl.still : Vl → Bool
  | .own _ => false
  | _ => true
/-- from now on it stays -/
def stl : Vl → Vl
  | .own c => .val c.fix
  | x => x
def VR (K : PySem.W.Frag) (B : Bs) (G H : Hp) (σ : L2.St) (ρ : R) (v : V) : Vl → Prop
  | .val t => Rep K G v t
  | .own c => ∃ a o, v = .ref a ∧ H a = some o ∧ RepC K G o c ∧ G a = none ∧ (∀ i, ¬ OwnAt σ ρ i a) ∧ (B.O a ∨ B.H a = none)
  | .sl i => σ[i]? = some (some v)
inductive Res (α : Type) where
  | ok (x : α) (ρ : R) | ex (C : Str) (fs : List (Str × T)) (ρ : R) | bot
abbrev M (α : Type) := R → Res α
def bindR {α β : Type} (r : Res α) (f : α → M β) : Res β := match r with
  | .ok x ρ => f x ρ
  | .ex C fs ρ => .ex C fs ρ
  | .bot => .bot
abbrev XS := L2.St → XK
/-- behind an expression -/
def ExW [TabL] (K : PySem.W.Frag) (E : XS) (B : Bs) (G : Hp) (σ : L2.St) (C : Str) (fs : List (Str × T)) (ρ : R) : Prop :=
  ∀ d G' H' fv, Same G G' → RS K B G' H' σ ρ → B.H d = none → H' d = some (.xd fv) → RepF K G' fv fs → E σ (.ref (nm K C)) (some d) H'
def WnP [TabL] {α : Type} (K : PySem.W.Frag) (E : XS) (B : Bs) (G : Hp) (σ : L2.St) (post : α → R → Prop) : Res α → Prop
  | .ok x ρ => post x ρ
  | .ex C fs ρ => ExW K E B G σ C fs ρ
  | .bot => False
abbrev Wn [TabL] (K : PySem.W.Frag) (E : XS) (B : Bs) (G : Hp) (σ : L2.St) (Q : VK) : Res Vl → Prop := WnP K E B G σ fun x ρ => ∀ v G' H', Same G G' → RS K B G' H' σ ρ → VR K B G' H' σ ρ v x → Q v H'
abbrev WnB [TabL] (K : PySem.W.Frag) (E : XS) (B : Bs) (G : Hp) (σ : L2.St) (Q : Bool → Hp → Prop) : Res Bool → Prop := WnP K E B G σ fun x ρ => ∀ G' H', Same G G' → RS K B G' H' σ ρ → Q x H'
abbrev WnA [TabL] (K : PySem.W.Frag) (E : XS) (B : Bs) (G : Hp) (σ : L2.St) (Q : List V → Hp → Prop) : Res (List Vl) → Prop := WnP K E B G σ fun xs ρ => ∀ vs G' H', Same G G' → RS K B G' H' σ ρ → Paired (fun v x => VR K B G' H' σ ρ v x ∧ x.still = true) vs xs → Q vs H'
def ME [TabL] (K : PySem.W.Frag) (E : XS) (t : TE) (f : M Vl) : Prop := ∀ B G H σ ρ Q, RS K B G H σ ρ → Wn K E B G σ Q (f ρ) → t σ H Q
def MT [TabL] (K : PySem.W.Frag) (E : XS) (t : TT) (f : M Bool) : Prop := ∀ B G H σ ρ Q, RS K B G H σ ρ → WnB K E B G σ Q (f ρ) → t σ H Q
def MA [TabL] (K : PySem.W.Frag) (E : XS) (t : TA) (f : M (List Vl)) : Prop := ∀ B G H σ ρ Q, RS K B G H σ ρ → WnA K E B G σ Q (f ρ) → t σ H Q
inductive Out where
  | nx (ρ : R) | bk (ρ : R) | ct (ρ : R) | rt (x : Vl) (ρ : R) | ex (C : Str) (fs : List (Str × T)) (ρ : R) | bot
def WnS [TabL] (K : PySem.W.Frag) (E : XS) (B : Bs) (D : Ends) : Out → Prop
  | .nx ρ => ∀ G H σ, RS K B G H σ ρ → D.nx σ H
  | .bk ρ => ∀ G H σ, RS K B G H σ ρ → D.bk σ H
  | .ct ρ => ∀ G H σ, RS K B G H σ ρ → D.ct σ H
  | .rt x ρ => ∀ v G H σ, RS K B G H σ ρ → VR K B G H σ ρ v x → D.rt v H
  | .ex C fs ρ => ∀ d G H σ fv, RS K B G H σ ρ → B.H d = none → H d = some (.xd fv) → RepF K G fv fs → E σ (.ref (nm K C)) (some d) H
  | .bot => False
def MS [TabL] (K : PySem.W.Frag) (E : XS) (t : TS) (f : R → Out) : Prop := ∀ B G H σ ρ D, RS K B G H σ ρ → WnS K E B D (f ρ) → t D σ H
section
variable [TabL] {K : PySem.W.Frag} {E : XS} {B : Bs} {G G1 H H1 : Hp} {σ : L2.St} {ρ : R}
theorem ExW.mono {C : Str} {fs : List (Str × T)} (h : ExW K E B G σ C fs ρ) (s : Same G G1) : ExW K E B G1 σ C fs ρ := fun d G' H' fv s' => h d G' H' fv (s.trans s')
theorem WnP.imp {α : Type} {p p' : α → R → Prop} {r : Res α} (h : WnP K E B G σ p r) (s : Same G G1) (f : ∀ x ρ, p x ρ → p' x ρ) : WnP K E B G1 σ p' r := by
  cases r with
  | ok x ρ => exact f x ρ h
  | ex C fs ρ => exact ExW.mono h s
  | bot => exact h
theorem WnP.bind {α β : Type} {p : β → R → Prop} {r : Res α} {f : α → M β} (h : WnP K E B G σ p (bindR r f)) : WnP K E B G σ (fun x ρ => WnP K E B G σ p (f x ρ)) r := by
  cases r with
  | ok x ρ => exact h
  | ex C fs ρ => exact h
  | bot => exact h
theorem SlR.mono {v : Option V} {x : SV} (h : SlR K G H v x) (s : Same G G1) (k : ∀ a o, H a = some o → G a = none → H1 a = some o ∧ G1 a = none) : SlR K G1 H1 v x := by
  cases x with
  | no => trivial
  | fz t =>
    obtain ⟨u, e, r⟩ := h
    exact ⟨u, e, r.mono s⟩
  | ow c =>
    obtain ⟨a, o, e, h1, r, n⟩ := h
    exact ⟨a, o, e, (k a o h1 n).1, r.mono s, (k a o h1 n).2⟩
  | io c =>
    obtain ⟨a, o, e, h1, r, n⟩ := h
    exact ⟨a, o, e, (k a o h1 n).1, r.mono s, (k a o h1 n).2⟩
/-- a new object that stays -/
theorem nt_upd [TabL] {G : Hp} {p : Addr} {o : HO} (h : NtF G) (hp : G p = none) (ho : ∀ ps, o ≠ .tbl ps) : NtF (upd G p o) := by
  refine ⟨fun a ps e => ?_, TabL.mono _ _ (same_new hp) h.2⟩
  by_cases c : a = p
  · subst c
    rw [upd_same] at e
    exact ho ps (Option.some.inj e)
  · rw [upd_ne c] at e
    exact h.1 a ps e
theorem RS.laid {p : Addr} {o : HO} (h : RS K B G H σ ρ) (hp : H p = none) (ht : ∀ ps, o ≠ .tbl ps) : RS K B (upd G p o) (upd H p o) σ ρ := by
  have gp : G p = none := h.sub.free hp
  have sG : Same G (upd G p o) := same_new gp
  have k : ∀ a u, H a = some u → upd H p o a = some u := fun a u e => same_new hp a u e
  refine ⟨fun a u e => ?_, h.len, fun i x v e1 e2 => (h.rel i x v e1 e2).mono sG fun a u e n => ⟨k a u e, ?_⟩, h.dis, fun a u e n q => k a u (h.keep a u e n q), fun a e => ?_, h.own, h.gs.trans sG, fun a u e => ?_, h.pin, h.tb.ext k, nt_upd h.nt gp ht⟩
  · by_cases c : a = p
    · subst c
      rw [upd_same] at e ⊢
      exact e
    · rw [upd_ne c] at e ⊢
      exact h.sub a u e
  · rw [upd_ne (ne_of_none e hp)]
    exact n
  · by_cases c : a = p
    · subst c
      rw [upd_same] at e
      cases e
    · rw [upd_ne c] at e
      exact h.all a e
  · by_cases c : a = p
    · subst c
      exact .inr (.inr (.inl (h.all a hp)))
    · rw [upd_ne c] at e
      exact h.gn a u e
/-- a new object of one's own -/
theorem RS.made {p : Addr} {o : HO} (h : RS K B G H σ ρ) (hp : H p = none) : RS K B G (upd H p o) σ ρ := by
  have gp : G p = none := h.sub.free hp
  have k : ∀ a u, H a = some u → upd H p o a = some u := fun a u e => same_new hp a u e
  refine ⟨fun a u e => k a u (h.sub a u e), h.len, fun i x v e1 e2 => (h.rel i x v e1 e2).mono (Same.refl G) fun a u e n => ⟨k a u e, n⟩, h.dis, fun a u e n q => k a u (h.keep a u e n q), fun a e => ?_, h.own, h.gs, h.gn, h.pin, h.tb.ext k, h.nt⟩
  by_cases c : a = p
  · subst c
    rw [upd_same] at e
    cases e
  · rw [upd_ne c] at e
    exact h.all a e
theorem RS.notOwn {p : Addr} (h : RS K B G H σ ρ) (hp : H p = none) (i : Nat) : ¬ OwnAt σ ρ i p := by
  rintro ⟨e, c, q⟩
  rcases q with q | q
  · obtain ⟨a, o, e2, h1, _⟩ := h.rel i _ _ q e
    cases e2
    rw [hp] at h1
    cases h1
  · obtain ⟨a, o, e2, h1, _⟩ := h.rel i _ _ q e
    cases e2
    rw [hp] at h1
    cases h1
/-- an own thing that no slot has, from now on stays -/
theorem RS.frozen {a : Addr} {o : HO} (h : RS K B G H σ ρ) (ht : ∀ ps, o ≠ .tbl ps) (ha : H a = some o) (hg : G a = none) (hn : ∀ i, ¬ OwnAt σ ρ i a) (ho : B.O a ∨ B.H a = none) : RS K B (upd G a o) H σ ρ ∧ Same G (upd G a o) := by
  have sG : Same G (upd G a o) := same_new hg
  refine ⟨⟨fun b u e => ?_, h.len, fun i x v e1 e2 => ?_, h.dis, h.keep, h.all, h.own, h.gs.trans sG, fun b u e => ?_, h.pin, h.tb, nt_upd h.nt hg ht⟩, sG⟩
  · by_cases c : b = a
    · subst c
      rw [upd_same] at e
      rw [ha]
      exact e
    · rw [upd_ne c] at e
      exact h.sub b u e
  · have r := h.rel i x v e1 e2
    have own : ∀ c, (x = .ow c ∨ x = .io c) → OwnsC K G H v c → OwnsC K (upd G a o) H v c := fun c hx ⟨b, u, e3, h3, r3, n3⟩ => by
      refine ⟨b, u, e3, h3, r3.mono sG, ?_⟩
      have nb : b ≠ a := fun z => by
        subst z
        refine hn i ⟨by rw [e2, e3], c, ?_⟩
        rcases hx with rfl | rfl
        · exact .inl e1
        · exact .inr e1
      rw [upd_ne nb]
      exact n3
    cases x with
    | no => trivial
    | fz t =>
      obtain ⟨u, e, r⟩ := r
      exact ⟨u, e, r.mono sG⟩
    | ow c => exact own c (.inl rfl) r
    | io c => exact own c (.inr rfl) r
  · by_cases c : b = a
    · subst c
      rcases ho with z | z
      · exact .inr (.inl z)
      · exact .inr (.inr (.inl z))
    · rw [upd_ne c] at e
      exact h.gn b u e
/-- the things of the slots, by a new base -/
def Bs.re (B : Bs) (G H : Hp) (σ : L2.St) (ρ : R) : Bs := ⟨G, H, fun a => ∃ i, OwnAt σ ρ i a, B.pin⟩
theorem RS.re (h : RS K B G H σ ρ) : RS K (B.re G H σ ρ) G H σ ρ :=
  ⟨h.sub, h.len, h.rel, h.dis, fun _ _ e _ _ => e, fun _ e => e, fun i a q => .inl ⟨i, q⟩, Same.refl G, fun _ _ e => .inl e, h.pin, h.tb, h.nt⟩
theorem RS.un {σ' : L2.St} {ρ' : R} (h : RS K B G H σ ρ) (h' : RS K (B.re G H σ ρ) G1 H1 σ' ρ') : RS K B G1 H1 σ' ρ' := by
  have own : ∀ a, (∃ i, OwnAt σ ρ i a) → B.O a ∨ B.H a = none := fun a ⟨i, q⟩ => h.own i a q
  refine ⟨h'.sub, h'.len, h'.rel, h'.dis, fun a o e n y => h'.keep a o (h.keep a o e n y) (fun z => ?_) y, fun a e => h.all a (h'.all a e), fun i a q => ?_, h.gs.trans h'.gs, fun a o e => ?_, h'.pin, h'.tb, h'.nt⟩
  · rcases own a z with q | q
    · exact n q
    · rw [e] at q
      cases q
  · rcases h'.own i a q with z | z
    · exact own a z
    · exact .inr (h.all a z)
  · rcases h'.gn a o e with z | z | z | z
    · exact h.gn a o z
    · rcases own a z with y | y
      · exact .inr (.inl y)
      · exact .inr (.inr (.inl y))
    · exact .inr (.inr (.inl (h.all a z)))
    · exact .inr (.inr (.inr z))
theorem VR.un {σ' : L2.St} {ρ' : R} {v : V} {x : Vl} (h : RS K B G H σ ρ) (q : VR K (B.re G H σ ρ) G1 H1 σ' ρ' v x) : VR K B G1 H1 σ' ρ' v x := by
  cases x with
  | val t => exact q
  | sl i => exact q
  | own c =>
    obtain ⟨a, o, e, h1, r, n, no, z⟩ := q
    refine ⟨a, o, e, h1, r, n, no, ?_⟩
    rcases z with ⟨i, z⟩ | z
    · exact h.own i a z
    · exact .inr (h.all a z)
theorem VR.still {ρ ρ' : R} {v : V} {x : Vl} (q : VR K B G H σ ρ v x) (hx : x.still = true) (s : Same G G1) : VR K B G1 H1 σ ρ' v x := by
  cases x with
  | val t => exact Rep.mono s q
  | sl i => exact q
  | own c => cases hx
theorem stl_still (x : Vl) : (stl x).still = true := by cases x <;> rfl
theorem stl_ok {v : V} {x : Vl} (h : RS K B G H σ ρ) (q : VR K B G H σ ρ v x) : ∃ G', Same G G' ∧ RS K B G' H σ ρ ∧ VR K B G' H σ ρ v (stl x) := by
  cases x with
  | val t => exact ⟨G, Same.refl G, h, q⟩
  | sl i => exact ⟨G, Same.refl G, h, q⟩
  | own c =>
    obtain ⟨a, o, rfl, h1, r, n, no, z⟩ := q
    obtain ⟨h2, s⟩ := h.frozen (repc_nt r) h1 n no z
    exact ⟨_, s, h2, (r.mono s).fix upd_same⟩
theorem WnS.re {D : Ends} {f : Out} (h : RS K B G H σ ρ) (w : WnS K E B D f) : WnS K E (B.re G H σ ρ) D f := by
  cases f with
  | nx ρ' => exact fun G' H' σ' r => w G' H' σ' (h.un r)
  | bk ρ' => exact fun G' H' σ' r => w G' H' σ' (h.un r)
  | ct ρ' => exact fun G' H' σ' r => w G' H' σ' (h.un r)
  | rt x ρ' => exact fun v G' H' σ' r q => w v G' H' σ' (h.un r) (VR.un h q)
  | ex C fs ρ' => exact fun d G' H' σ' fv r nd => w d G' H' σ' fv (h.un r) (h.all d nd)
  | bot => exact w
end
end MX
set_option Elab.async false
set_option linter.all false
set_option maxRecDepth 100000
set_option maxHeartbeats 4000000
namespace MX
open PySem PySem.Spec PyProof.Rows L2 GX
section
variable [TabL] {K : PySem.W.Frag} {E : XS} {B : Bs} {G G1 H H1 : Hp} {σ : L2.St} {ρ : R}
theorem set_ne' {α : Type} {l : List α} {i j : Nat} {x : α} (h : j ≠ i) : (l.set i x)[j]? = l[j]? := by
  rw [List.getElem?_set]
  rw [if_neg (Ne.symm h)]
theorem set_eq' {α : Type} {l : List α} {i : Nat} {x y : α} (h : (l.set i x)[i]? = some y) : y = x := by
  rw [List.getElem?_set, if_pos rfl] at h
  split at h
  · exact (Option.some.inj h).symm
  · cases h
theorem set_same' {α : Type} {l : List α} {i : Nat} {x : α} (h : l[i]? = some x) : l.set i x = l := by
  refine List.ext_getElem? fun j => ?_
  by_cases c : j = i
  · subst c
    rw [List.getElem?_set, if_pos rfl, if_pos (List.getElem?_eq_some_iff.mp h).1, h]
  · rw [set_ne' c]
def SV.plain : SV → Bool
  | .no => true
  | .fz _ => true
  | _ => false
def SV.isIo : SV → Bool
  | .io _ => true
  | _ => false
theorem own_put {i j : Nat} {v : Option V} {x : SV} {a : Addr} (hx : x.plain = true) (q : OwnAt (σ.set i v) (ρ.set i x) j a) : j ≠ i ∧ OwnAt σ ρ j a := by
  obtain ⟨e, c, q⟩ := q
  have nj : j ≠ i := fun z => by
    subst z
    rcases q with q | q
    · rw [← set_eq' q] at hx
      cases hx
    · rw [← set_eq' q] at hx
      cases hx
  rw [set_ne' nj] at e q
  exact ⟨nj, e, c, q⟩
/-- a slot that holds nothing of its own, set -/
theorem RS.put {i : Nat} {v : Option V} {x : SV} (h : RS K B G H σ ρ) (hi : ∀ y, ρ[i]? = some y → y.isIo = false) (hx : x.plain = true) (r : SlR K G H v x) : RS K B G H (σ.set i v) (ρ.set i x) := by
  refine ⟨h.sub, by rw [List.length_set, List.length_set]; exact h.len, fun j y u e1 e2 => ?_, fun j k a n q1 q2 => h.dis j k a n (own_put hx q1).2 (own_put hx q2).2, h.keep, h.all, fun j a q => h.own j a (own_put hx q).2, h.gs, h.gn, fun j a m => ?_, h.tb, h.nt⟩
  · by_cases c : j = i
    · subst c
      rw [set_eq' e1, set_eq' e2]
      exact r
    · rw [set_ne' c] at e1 e2
      exact h.rel j y u e1 e2
  · obtain ⟨p1, c, p2⟩ := h.pin j a m
    have nj : j ≠ i := fun z => by
      subst z
      have := hi _ p2
      cases this
    rw [set_ne' nj, set_ne' nj]
    exact ⟨p1, c, p2⟩
/-- .. that gets a thing of its own -/
theorem RS.putO {i : Nat} {a : Addr} {o : HO} {c : OC} (h : RS K B G H σ ρ) (hi : ∀ y, ρ[i]? = some y → y.isIo = false) (e : H a = some o) (r : RepC K G o c) (n : G a = none) (no : ∀ j, j ≠ i → ¬ OwnAt σ ρ j a) (bo : B.O a ∨ B.H a = none) :
    RS K B G H (σ.set i (some (.ref a))) (ρ.set i (.ow c)) := by
  have out : ∀ j b, OwnAt (σ.set i (some (.ref a))) (ρ.set i (.ow c)) j b → (j = i ∧ b = a) ∨ (j ≠ i ∧ OwnAt σ ρ j b) := fun j b ⟨e1, c1, q⟩ => by
    by_cases cj : j = i
    · subst cj
      have := set_eq' e1
      cases this
      exact .inl ⟨rfl, rfl⟩
    · rw [set_ne' cj] at e1 q
      exact .inr ⟨cj, e1, c1, q⟩
  refine ⟨h.sub, by rw [List.length_set, List.length_set]; exact h.len, fun j y u e1 e2 => ?_, fun j k b nk q1 q2 => ?_, h.keep, h.all, fun j b q => ?_, h.gs, h.gn, fun j b m => ?_, h.tb, h.nt⟩
  · by_cases cj : j = i
    · subst cj
      rw [set_eq' e1, set_eq' e2]
      exact ⟨a, o, rfl, e, r, n⟩
    · rw [set_ne' cj] at e1 e2
      exact h.rel j y u e1 e2
  · rcases out j b q1 with ⟨z1, z2⟩ | ⟨z1, z2⟩ <;> rcases out k b q2 with ⟨y1, y2⟩ | ⟨y1, y2⟩
    · exact nk (z1.trans y1.symm)
    · subst z2
      exact no k y1 y2
    · subst y2
      exact no j z1 z2
    · exact h.dis j k b nk z2 y2
  · rcases out j b q with ⟨_, z2⟩ | ⟨_, z2⟩
    · subst z2
      exact bo
    · exact h.own j b z2
  · obtain ⟨p1, c, p2⟩ := h.pin j b m
    have nj : j ≠ i := fun z => by
      subst z
      have := hi _ p2
      cases this
    rw [set_ne' nj, set_ne' nj]
    exact ⟨p1, c, p2⟩
theorem own_of [TabL] {K : PySem.W.Frag} {B : Bs} {G H : Hp} {σ : L2.St} {ρ : R} {i : Nat} {v : V} {c : OC} (h : RS K B G H σ ρ) (e : ρ[i]? = some (.ow c) ∨ ρ[i]? = some (.io c)) (s : σ[i]? = some (some v)) :
    ∃ a o, v = .ref a ∧ H a = some o ∧ RepC K G o c ∧ G a = none ∧ OwnAt σ ρ i a ∧ ∀ j, j ≠ i → ¬ OwnAt σ ρ j a := by
  have main : OwnsC K G H (some v) c → ∃ a o, v = .ref a ∧ H a = some o ∧ RepC K G o c ∧ G a = none ∧ OwnAt σ ρ i a ∧ ∀ j, j ≠ i → ¬ OwnAt σ ρ j a := fun ⟨a, o, ev, h1, r, n⟩ => by
    obtain rfl := Option.some.inj ev
    have oi : OwnAt σ ρ i a := ⟨s, c, e⟩
    exact ⟨a, o, rfl, h1, r, n, oi, fun j nj q => h.dis j i a nj q oi⟩
  rcases e with e | e
  · exact main (h.rel i _ _ e s)
  · exact main (h.rel i _ _ e s)
def rdV (ρ : R) : Vl → Option T
  | .val t => some t
  | .own c => some c.fix
  | .sl i => match ρ[i]? with
    | some (.fz t) => some t
    | some (.ow c) => some c.fix
    | some (.io c) => some c.fix
    | _ => none
inductive Vw (K : PySem.W.Frag) (G H : Hp) : V → T → Prop
  | fz {v : V} {t : T} : Rep K G v t → Vw K G H v t
  | own {a : Addr} {o : HO} {c : OC} : H a = some o → RepC K G o c → Vw K G H (.ref a) c.fix
theorem rd_ok {v : V} {x : Vl} {t : T} (h : RS K B G H σ ρ) (q : VR K B G H σ ρ v x) (e : rdV ρ x = some t) : Vw K G H v t := by
  cases x with
  | val u =>
    cases e
    exact .fz q
  | own c =>
    cases e
    obtain ⟨a, o, rfl, h1, r, _⟩ := q
    exact .own h1 r
  | sl i =>
    have q : σ[i]? = some (some v) := q
    unfold rdV at e
    dsimp only at e
    split at e
    · next u hu =>
      cases e
      obtain ⟨w, ew, r⟩ := h.rel i _ _ hu q
      obtain rfl := Option.some.inj ew
      exact .fz r
    · next c hc =>
      cases e
      obtain ⟨a, o, rfl, h1, r, _⟩ := own_of h (.inl hc) q
      exact .own h1 r
    · next c hc =>
      cases e
      obtain ⟨a, o, rfl, h1, r, _⟩ := own_of h (.inr hc) q
      exact .own h1 r
    · cases e
def fixV (ρ : R) : Vl → Option (T × R)
  | .val t => some (t, ρ)
  | .own c => some (c.fix, ρ)
  | .sl i => match ρ[i]? with
    | some (.fz t) => some (t, ρ)
    | some (.ow c) => some (c.fix, ρ.set i (.fz c.fix))
    | _ => none
theorem fix_ok {v : V} {x : Vl} {t : T} {ρ' : R} (h : RS K B G H σ ρ) (q : VR K B G H σ ρ v x) (e : fixV ρ x = some (t, ρ')) : ∃ G', Same G G' ∧ RS K B G' H σ ρ' ∧ Rep K G' v t := by
  cases x with
  | val u =>
    cases e
    exact ⟨G, Same.refl G, h, q⟩
  | own c =>
    cases e
    obtain ⟨G', s, h', q'⟩ := stl_ok h q
    exact ⟨G', s, h', q'⟩
  | sl i =>
    have q : σ[i]? = some (some v) := q
    unfold fixV at e
    dsimp only at e
    split at e
    · next u hu =>
      cases e
      obtain ⟨w, ew, r⟩ := h.rel i _ _ hu q
      obtain rfl := Option.some.inj ew
      exact ⟨G, Same.refl G, h, r⟩
    · next c hc =>
      cases e
      obtain ⟨a, o, rfl, h1, r, n, oi, no⟩ := own_of h (.inl hc) q
      have h2 := h.put (i := i) (v := some (.ref a)) (x := .no) (fun y ey => by rw [hc] at ey; cases ey; rfl) rfl trivial
      have no2 : ∀ j, ¬ OwnAt (σ.set i (some (.ref a))) (ρ.set i .no) j a := fun j z => no j (own_put rfl z).1 (own_put rfl z).2
      obtain ⟨h3, s⟩ := h2.frozen (repc_nt r) h1 n no2 (h.own i a oi)
      have r3 := (r.mono s).fix (a := a) upd_same
      have h4 := h3.put (i := i) (v := some (.ref a)) (x := .fz c.fix) (fun y ey => by rw [set_eq' ey]; rfl) rfl ⟨_, rfl, r3⟩
      rw [List.set_set, List.set_set, set_same' q] at h4
      exact ⟨_, s, h4, r3⟩
    · cases e
def fixA (ρ : R) : List Vl → Option (List T × R)
  | [] => some ([], ρ)
  | x :: xs => match fixV ρ x with
    | some (t, ρ1) => match fixA ρ1 xs with
      | some (ts, ρ2) => some (t :: ts, ρ2)
      | none => none
    | none => none
theorem fixA_ok : ∀ {xs : List Vl} {vs : List V} {ts : List T} {G : Hp} {ρ ρ' : R}, RS K B G H σ ρ → Paired (fun v x => VR K B G H σ ρ v x ∧ x.still = true) vs xs → fixA ρ xs = some (ts, ρ') →
    ∃ G', Same G G' ∧ RS K B G' H σ ρ' ∧ Reps K G' vs ts
  | [], _, _, G, _, _, h, .nil, e => by
    cases e
    exact ⟨G, Same.refl G, h, .nil⟩
  | x :: xs, v :: vs, ts, G, ρ, ρ', h, .cons ⟨q, st⟩ r, e => by
    unfold fixA at e
    split at e
    · next t ρ1 e1 =>
      split at e
      · next us ρ2 e2 =>
        cases e
        obtain ⟨G1, s1, h1, r1⟩ := fix_ok h q e1
        have r' : Paired (fun v x => VR K B G1 H σ ρ1 v x ∧ x.still = true) vs xs := Paired.mapP r fun a b z => ⟨VR.still z.1 z.2 s1, z.2⟩
        obtain ⟨G2, s2, h2, r2⟩ := fixA_ok h1 r' e2
        exact ⟨G2, s1.trans s2, h2, .cons (r1.mono s2) r2⟩
      · cases e
    · cases e
theorem Vw.mono {v : V} {t : T} (h : Vw K G H v t) (s : Same G G1) : Vw K G1 H v t := by
  cases h with
  | fz r => exact .fz (r.mono s)
  | own e r => exact .own e (r.mono s)
theorem Vw.int {v : V} {i : Int} (h : Vw K G H v (.int i)) : v = .int i := by
  generalize e : T.int i = t at h
  cases h with
  | fz r => subst e; cases r; rfl
  | own e1 r => cases r <;> cases e
theorem Vw.bl {v : V} {i : Bool} (h : Vw K G H v (.bl i)) : v = .bl i := by
  generalize e : T.bl i = t at h
  cases h with
  | fz r => subst e; cases r; rfl
  | own e1 r => cases r <;> cases e
theorem Vw.str {v : V} {i : Str} (h : Vw K G H v (.str i)) : v = .str i := by
  generalize e : T.str i = t at h
  cases h with
  | fz r => subst e; cases r; rfl
  | own e1 r => cases r <;> cases e
theorem Vw.non {v : V} (h : Vw K G H v .non) : v = .non := by
  generalize e : T.non = t at h
  cases h with
  | fz r => subst e; cases r; rfl
  | own e1 r => cases r <;> cases e
theorem Vw.ty {v : V} {n : String} (h : Vw K G H v (.ty n)) : v = .ty n := by
  generalize e : T.ty n = t at h
  cases h with
  | fz r => subst e; cases r; rfl
  | own e1 r => cases r <;> cases e
theorem Vw.adr {v : V} {n : Addr} (h : Vw K G H v (.adr n)) : v = .ref n := by
  generalize e : T.adr n = t at h
  cases h with
  | fz r => subst e; cases r; rfl
  | own e1 r => cases r <;> cases e
theorem Vw.lst {v : V} {ts : List T} (h : Vw K G H v (.lst ts)) (s : Same G H) : ∃ a vs, v = .ref a ∧ H a = some (.lst vs) ∧ Reps K G vs ts := by
  generalize e : T.lst ts = t at h
  cases h with
  | fz r => subst e; cases r; exact ⟨_, _, rfl, s _ _ (by assumption), by assumption⟩
  | own e1 r => cases r <;> cases e; exact ⟨_, _, rfl, e1, by assumption⟩
theorem Vw.edc {v : V} (h : Vw K G H v .edc) (s : Same G H) : ∃ a, v = .ref a ∧ H a = some (.dK []) := by
  generalize e : T.edc = t at h
  cases h with
  | fz r => subst e; cases r; exact ⟨_, rfl, s _ _ (by assumption)⟩
  | own e1 r => cases r <;> cases e
theorem Vw.lsk {v : V} {ts : List T} (h : Vw K G H v (.lsk ts)) (s : Same G H) : ∃ a vs, v = .ref a ∧ SqL K H a vs ∧ Reps K G vs ts := by
  generalize e : T.lsk ts = t at h
  cases h with
  | fz r => subst e; cases r; exact ⟨_, _, rfl, s.seq (by assumption), by assumption⟩
  | own e1 r => cases r <;> cases e
theorem Vw.tup {v : V} {ts : List T} (h : Vw K G H v (.tup ts)) (s : Same G H) : ∃ a vs, v = .ref a ∧ SqT K G a vs ∧ SqT K H a vs ∧ Reps K G vs ts := by
  generalize e : T.tup ts = t at h
  cases h with
  | fz r => subst e; cases r; exact ⟨_, _, rfl, (by assumption), seqT s (by assumption), by assumption⟩
  | own e1 r => cases r <;> cases e
theorem Vw.obj {v : V} {C : Str} {gs : List (Str × T)} (h : Vw K G H v (.obj C gs)) (s : Same G H) : ∃ a dx fs, v = .ref a ∧ H a = some (.ins (nm K C) dx fs) ∧ RepF K G fs gs := by
  generalize e : T.obj C gs = t at h
  cases h with
  | fz r => subst e; cases r; exact ⟨_, _, _, rfl, s _ _ (by assumption), by assumption⟩
  | own e1 r => cases r <;> cases e; exact ⟨_, _, _, rfl, e1, by assumption⟩
def eV (i : Nat) : M Vl := fun ρ => match ρ[i]? with
  | some .no => .bot
  | some _ => .ok (.sl i) ρ
  | none => .bot
def eC (t : T) : M Vl := fun ρ => .ok (.val t) ρ
theorem me_var {i : Nat} : ME K E (tVar i) (eV i) := fun B G H σ ρ Q h w => by
  have hi : ∀ x, ρ[i]? = some x → ∃ v, σ[i]? = some v := fun x e => by
    have l := (List.getElem?_eq_some_iff.mp e).1
    rw [← h.len] at l
    exact ⟨_, List.getElem?_eq_getElem l⟩
  have main : ∀ x v, ρ[i]? = some x → (∃ u, v = some u) → σ[i]? = some v → (∀ v G' H', Same G G' → RS K B G' H' σ ρ → VR K B G' H' σ ρ v (.sl i) → Q v H') → tVar i σ H Q := fun x v e ⟨u, hu⟩ es w => by
    subst hu
    exact ⟨u, es, w u G H (Same.refl G) h es⟩
  unfold eV at w
  split at w
  · cases w
  · next x hn e =>
    obtain ⟨v, es⟩ := hi x e
    refine main x v e ?_ es w
    have r := h.rel i x v e es
    cases x with
    | no => exact absurd rfl (hn · )
    | fz t => obtain ⟨u, e, _⟩ := r; exact ⟨u, e⟩
    | ow c => obtain ⟨a, o, e, _⟩ := r; exact ⟨_, e⟩
    | io c => obtain ⟨a, o, e, _⟩ := r; exact ⟨_, e⟩
  · cases w
theorem me_c {v : V} {t : T} (r : ∀ K G, Rep K G v t) : ME K E (tC v) (eC t) := fun B G H σ ρ Q h w => w v G H (Same.refl G) h (r K G)
/-- an operator on what its operands read as -/
def OpM (K : PySem.W.Frag) (r : R2) (g : T → T → Option Vl) : Prop := ∀ B G H σ ρ x y tx ty z Q, RS K B G H σ ρ → Vw K G H x tx → Vw K G H y ty → g tx ty = some z →
  (∀ v G' H', Same G G' → RS K B G' H' σ ρ → VR K B G' H' σ ρ v z → Q v H') → r x y H Q
def opt {α : Type} (o : Option α) (ρ : R) : Res α := match o with
  | some x => .ok x ρ
  | none => .bot
def ap2 (g : T → T → Option Vl) (a b : Option T) : Option Vl := match a, b with
  | some x, some y => g x y
  | _, _ => none
def eOp (g : T → T → Option Vl) (f h : M Vl) : M Vl := fun ρ => bindR (f ρ) fun x ρ1 => bindR (h ρ1) fun y ρ2 => opt (ap2 g (rdV ρ2 (stl x)) (rdV ρ2 y)) ρ2
theorem me_op {r : R2} {g : T → T → Option Vl} {ta tb : TE} {f h : M Vl} (o : OpM K r g) (ha : ME K E ta f) (hb : ME K E tb h) : ME K E (tOp r ta tb) (eOp g f h) := fun B G H σ ρ Q hs w => by
  refine ha B G H σ ρ _ hs (WnP.imp (WnP.bind w) (Same.refl G) fun x ρ1 w1 v1 G1 H1 s1 h1 q1 => ?_)
  obtain ⟨G2, s2, h2, q2⟩ := stl_ok h1 q1
  refine hb B G2 H1 σ ρ1 _ h2 (WnP.imp (WnP.bind w1) (s1.trans s2) fun y ρ2 w2 v2 G3 H3 s3 h3 q3 => ?_)
  unfold opt at w2
  split at w2
  · next z ez =>
    unfold ap2 at ez
    split at ez
    · next tx ty ex ey =>
      exact o B G3 H3 σ ρ2 v1 v2 tx ty z Q h3 (rd_ok h3 (VR.still q2 (stl_still x) s3) ex) (rd_ok h3 q3 ey) ez fun v G' H' s4 h4 q4 => w2 v G' H' (((s1.trans s2).trans s3).trans s4) h4 q4
    · cases ez
  · cases w2
/-- one on one value -/
def UnM (K : PySem.W.Frag) (r : V → Hp → VK → Prop) (g : T → Option Vl) : Prop := ∀ B G H σ ρ x tx z Q, RS K B G H σ ρ → Vw K G H x tx → g tx = some z →
  (∀ v G' H', Same G G' → RS K B G' H' σ ρ → VR K B G' H' σ ρ v z → Q v H') → r x H Q
def ap1 {α β : Type} (g : β → Option α) (a : Option β) : Option α := match a with
  | some x => g x
  | none => none
def eUn (g : T → Option Vl) (f : M Vl) : M Vl := fun ρ => bindR (f ρ) fun x ρ1 => opt (ap1 g (rdV ρ1 x)) ρ1
theorem me_un' {r : V → Hp → VK → Prop} {g : T → Option Vl} {ta : TE} {f : M Vl} (o : UnM K r g) (ha : ME K E ta f) : ME K E (fun σ H Q => ta σ H fun x H1 => r x H1 Q) (eUn g f) := fun B G H σ ρ Q hs w => by
  refine ha B G H σ ρ _ hs (WnP.imp (WnP.bind w) (Same.refl G) fun x ρ1 w1 v1 G1 H1 s1 h1 q1 => ?_)
  unfold opt at w1
  split at w1
  · next z ez =>
    unfold ap1 at ez
    split at ez
    · next tx ex => exact o B G1 H1 σ ρ1 v1 tx z Q h1 (rd_ok h1 q1 ex) ez fun v G' H' s4 h4 q4 => w1 v G' H' (s1.trans s4) h4 q4
    · cases ez
  · cases w1
def isB : T → Option Bool
  | .bl b => some b
  | _ => none
def tV (f : M Vl) : M Bool := fun ρ => bindR (f ρ) fun x ρ1 => opt (ap1 isB (rdV ρ1 x)) ρ1
theorem mt_val {t : TE} {f : M Vl} (h : ME K E t f) : MT K E (tB t) (tV f) := fun B G H σ ρ Q hs w => by
  refine h B G H σ ρ _ hs (WnP.imp (WnP.bind w) (Same.refl G) fun x ρ1 w1 v1 G1 H1 s1 h1 q1 => ?_)
  unfold opt at w1
  split at w1
  · next z ez =>
    unfold ap1 at ez
    split at ez
    · next tx ex =>
      cases tx with
      | bl b =>
        cases ez
        obtain rfl := (rd_ok h1 q1 ex).bl
        exact ⟨_, rfl, w1 G1 H1 s1 h1⟩
      | _ => cases ez
    · cases ez
  · cases w1
theorem mt_test {t : TE} {f : M Vl} (h : ME K E t f) : MT K E (tTest t) (tV f) := mt_val h
def tA (f g : M Bool) : M Bool := fun ρ => bindR (f ρ) fun c ρ1 => if c = true then g ρ1 else .ok false ρ1
def tO (f g : M Bool) : M Bool := fun ρ => bindR (f ρ) fun c ρ1 => if c = true then .ok true ρ1 else g ρ1
def tN (f : M Bool) : M Bool := fun ρ => bindR (f ρ) fun c ρ1 => .ok (!c) ρ1
theorem mt_or {ta tb : TT} {f g : M Bool} (ha : MT K E ta f) (hb : MT K E tb g) : MT K E (tOr ta tb) (tO f g) := fun B G H σ ρ Q hs w => by
  refine ha B G H σ ρ _ hs (WnP.imp (WnP.bind w) (Same.refl G) fun c ρ1 w1 G1 H1 s1 h1 => ?_)
  cases c with
  | true => exact w1 G1 H1 s1 h1
  | false => exact hb B G1 H1 σ ρ1 _ h1 (WnP.imp w1 s1 fun x ρ2 w2 G' H' s2 => w2 G' H' (s1.trans s2))
theorem mt_not {ta : TT} {f : M Bool} (ha : MT K E ta f) : MT K E (tNot ta) (tN f) := fun B G H σ ρ Q hs w => by
  refine ha B G H σ ρ _ hs (WnP.imp (WnP.bind w) (Same.refl G) fun c ρ1 w1 G1 H1 s1 h1 => ?_)
  exact w1 G1 H1 s1 h1
/-- and, or of values -/
def eA (f g : M Vl) : M Vl := fun ρ => bindR (tV f ρ) fun c ρ1 => if c = true then g ρ1 else .ok (.val (.bl false)) ρ1
def eO (f g : M Vl) : M Vl := fun ρ => bindR (tV f ρ) fun c ρ1 => if c = true then .ok (.val (.bl true)) ρ1 else g ρ1
def eN (f : M Vl) : M Vl := fun ρ => bindR (tV f ρ) fun c ρ1 => .ok (.val (.bl (!c))) ρ1
theorem me_and {ta tb : TE} {f g : M Vl} (ha : ME K E ta f) (hb : ME K E tb g) : ME K E (tAndV ta tb) (eA f g) := fun B G H σ ρ Q hs w => by
  refine mt_val ha B G H σ ρ _ hs (WnP.imp (WnP.bind w) (Same.refl G) fun c ρ1 w1 G1 H1 s1 h1 => ?_)
  cases c with
  | true => exact hb B G1 H1 σ ρ1 _ h1 (WnP.imp w1 s1 fun x ρ2 w2 v G' H' s2 => w2 v G' H' (s1.trans s2))
  | false => exact w1 _ G1 H1 s1 h1 (.bl false)
theorem me_not {ta : TE} {f : M Vl} (ha : ME K E ta f) : ME K E (tNotV ta) (eN f) := fun B G H σ ρ Q hs w => by
  refine mt_val ha B G H σ ρ _ hs (WnP.imp (WnP.bind w) (Same.refl G) fun c ρ1 w1 G1 H1 s1 h1 => ?_)
  exact w1 _ G1 H1 s1 h1 (.bl _)
def eIf (c : M Bool) (f g : M Vl) : M Vl := fun ρ => bindR (c ρ) fun b ρ1 => if b = true then f ρ1 else g ρ1
theorem me_if {tc : TT} {ta tb : TE} {c : M Bool} {f g : M Vl} (hc : MT K E tc c) (ha : ME K E ta f) (hb : ME K E tb g) : ME K E (tIf tc ta tb) (eIf c f g) := fun B G H σ ρ Q hs w => by
  refine hc B G H σ ρ _ hs (WnP.imp (WnP.bind w) (Same.refl G) fun c ρ1 w1 G1 H1 s1 h1 => ?_)
  cases c with
  | true => exact ha B G1 H1 σ ρ1 _ h1 (WnP.imp w1 s1 fun x ρ2 w2 v G' H' s2 => w2 v G' H' (s1.trans s2))
  | false => exact hb B G1 H1 σ ρ1 _ h1 (WnP.imp w1 s1 fun x ρ2 w2 v G' H' s2 => w2 v G' H' (s1.trans s2))
def aN : M (List Vl) := fun ρ => .ok [] ρ
def aC (f : M Vl) (g : M (List Vl)) : M (List Vl) := fun ρ => bindR (f ρ) fun x ρ1 => bindR (g ρ1) fun xs ρ2 => .ok (stl x :: xs) ρ2
theorem ma_nil : MA K E tNil aN := fun B G H σ ρ Q hs w => w [] G H (Same.refl G) hs .nil
theorem ma_cons {ta : TE} {tr : TA} {f : M Vl} {g : M (List Vl)} (ha : ME K E ta f) (hr : MA K E tr g) : MA K E (tCons ta tr) (aC f g) := fun B G H σ ρ Q hs w => by
  refine ha B G H σ ρ _ hs (WnP.imp (WnP.bind w) (Same.refl G) fun x ρ1 w1 v1 G1 H1 s1 h1 q1 => ?_)
  obtain ⟨G2, s2, h2, q2⟩ := stl_ok h1 q1
  refine hr B G2 H1 σ ρ1 _ h2 (WnP.imp (WnP.bind w1) (s1.trans s2) fun xs ρ2 w2 vs G3 H3 s3 h3 q3 => ?_)
  exact w2 (v1 :: vs) G3 H3 ((s1.trans s2).trans s3) h3 (.cons ⟨VR.still q2 (stl_still x) s3, stl_still x⟩ q3)
def mkL (ρ : R) (xs : List Vl) : Res Vl := match fixA ρ xs with
  | some (ts, ρ1) => if ts.length ≤ 16777216 then .ok (.own (.lst ts)) ρ1 else .bot
  | none => .bot
def mkT (ρ : R) (xs : List Vl) : Res Vl := match fixA ρ xs with
  | some (ts, ρ1) => if ts.length ≤ 16777216 then .ok (.val (.tup ts)) ρ1 else .bot
  | none => .bot
def eL (g : M (List Vl)) : M Vl := fun ρ => bindR (g ρ) fun xs ρ1 => mkL ρ1 xs
def eT (g : M (List Vl)) : M Vl := fun ρ => bindR (g ρ) fun xs ρ1 => mkT ρ1 xs
theorem new_own {p : Addr} {vs : List V} {ts : List T} (h : RS K B G H σ ρ) (hp : H p = none) (r : Reps K G vs ts) : RS K B G (upd H p (.lst vs)) σ ρ ∧ VR K B G (upd H p (.lst vs)) σ ρ (.ref p) (.own (.lst ts)) :=
  ⟨h.made hp, p, _, rfl, upd_same, .lst r, h.sub.free hp, fun i z => h.notOwn hp i z, .inr (h.all p hp)⟩
theorem new_tup {p : Addr} {vs : List V} {ts : List T} (h : RS K B G H σ ρ) (hp : H p = none) (r : Reps K G vs ts) : Same G (upd G p (.tup vs)) ∧ RS K B (upd G p (.tup vs)) (upd H p (.tup vs)) σ ρ ∧ Rep K (upd G p (.tup vs)) (.ref p) (.tup ts) :=
  have s : Same G (upd G p (.tup vs)) := same_new (h.sub.free hp)
  ⟨s, h.laid hp (fun _ z => nomatch z), .tup (SqT.of upd_same) (r.mono s)⟩
theorem me_lst {t : TA} {g : M (List Vl)} (h : MA K E t g) : ME K E (tLst t) (eL g) := fun B G H σ ρ Q hs w => by
  refine h B G H σ ρ _ hs (WnP.imp (WnP.bind w) (Same.refl G) fun xs ρ1 w1 vs G1 H1 s1 h1 q1 => ?_)
  unfold mkL at w1
  split at w1
  · next ts ρ2 e =>
    split at w1
    · next hl =>
      obtain ⟨G2, s2, h2, r2⟩ := fixA_ok h1 q1 e
      have hz := sizeLine_eq
      refine ⟨by rw [r2.len]; omega, fun p hp => ?_⟩
      obtain ⟨h3, q3⟩ := new_own h2 hp r2
      exact w1 _ _ _ (s1.trans s2) h3 q3
    · cases w1
  · cases w1
theorem me_tup {t : TA} {g : M (List Vl)} (h : MA K E t g) : ME K E (tTup t) (eT g) := fun B G H σ ρ Q hs w => by
  refine h B G H σ ρ _ hs (WnP.imp (WnP.bind w) (Same.refl G) fun xs ρ1 w1 vs G1 H1 s1 h1 q1 => ?_)
  unfold mkT at w1
  split at w1
  · next ts ρ2 e =>
    split at w1
    · next hl =>
      obtain ⟨G2, s2, h2, r2⟩ := fixA_ok h1 q1 e
      have hz := sizeLine_eq
      refine ⟨by rw [r2.len]; omega, fun p hp => ?_⟩
      obtain ⟨s3, h3, q3⟩ := new_tup h2 hp r2
      exact w1 _ _ _ ((s1.trans s2).trans s3) h3 q3
    · cases w1
  · cases w1
end
end MX
set_option Elab.async false
set_option linter.all false
set_option maxRecDepth 100000
set_option maxHeartbeats 4000000
namespace GX
open PySem PySem.Spec PyProof.Rows L2
/-- the script's place in an abstract heap: tracked and locked there, or an object of the top -/
structure At0 (K : PySem.W.Frag) (P : Program) (w : World) (h : Heap) (a : Addr) (ns : List Int) (H : Hp) : Prop where
  only : Only H
  sq : SqL K H a (ns.map V.int)
  ok : HOk P w H h
  one : ∀ b u, H b = some u → b = a
  out : ∀ u, H a = some u → K.lookup a = none
section
variable {P : Program} {w : World} {K : PySem.W.Frag} {mg mb : Str → Option Value} {CX : CXT} {k : Nat} {fa a : Addr} {fd : FuncData} {x : Str} {sp : Sp} {s₁ : Shared} {vs : List Value} {ns : List Int}
theorem at0_ex (KX : K.In s₁.heap) (ha : s₁.heap.get? a = some { cls := .type "list", data := .seq vs.toArray }) (hi : IntsAre vs ns) (hl : ns.length ≤ sizeLine) :
    ∃ H, At0 K P w s₁.heap a ns H := by
  have rv := vals_ints hi
  cases hk : K.lookup a with
  | some o =>
    have e := KX a o hk
    rw [ha] at e
    have e2 := Option.some.inj e
    subst e2
    refine ⟨fun _ => none, fun _ => Or.inl rfl, Or.inr ⟨_, vs.toArray, _, hk, rfl, rfl, rfl, ?_, ?_⟩, ?_, ?_, ?_⟩
    · rw [List.size_toArray, hi.length]
      exact hl
    · simpa using rv
    · intro b u z
      cases z
    · intro b u z
      cases z
    · intro u z
      cases z
  | none =>
    have look : ∀ (b : Addr) (y u : HO), (if b = a then some y else none) = some u → b = a := by
      intro b y u z
      by_cases q : b = a
      · exact q
      · rw [if_neg q] at z
        cases z
    refine ⟨fun b => if b = a then some (.frz { cls := .type "list", data := .seq vs.toArray } (.lst (ns.map V.int))) else none, ?_, Or.inl (Or.inr ⟨{ cls := .type "list", data := .seq vs.toArray }, if_pos rfl⟩), ?_, ?_, fun _ _ => hk⟩
    · intro b
      by_cases q : b = a
      · exact Or.inr ⟨_, _, if_pos q⟩
      · exact Or.inl (if_neg q)
    · intro b u z
      have q := look b _ u z
      subst q
      have z2 : some (HO.frz { cls := .type "list", data := .seq vs.toArray } (.lst (ns.map V.int))) = some u := (if_pos rfl).symm.trans z
      cases z2
      refine ⟨ha, ?_, vs, _, rv, ha⟩
      rw [List.length_map]
      exact hl
    · intro b u z
      exact look b _ u z
end
end GX
set_option Elab.async false
set_option linter.all false
set_option maxRecDepth 100000
set_option maxHeartbeats 4000000
namespace PySem.W
open PySem PySem.Spec PySem.Calls PyProof.Rows
section
variable {prog : Program} {w : World} {A : Around} {E : Value → Shared → Prop} {s : Shared} {K : Frag} {x D : Addr} {ox : Obj} {od : Option Obj}
theorem gx_find {name : Str} {a g : Value} (hc : (clsIn K D).isSome = true) (ha : findIn K (.ref D) name = some (some a))
    (hg : specialIn K a "__get__" = some (some g)) (ht : takesIn K a = some true) : findObj K D od name = some (.bind g a) := by
  cases od with
  | none => exact findObj_dataN hc ha hg ht
  | some o => exact findObj_data hc ha hg ht
theorem gx_class {Q : Option Value → Shared → Prop} (C : L2.ExcC K D) (X : K.In s.heap) (I : InstAt s.heap x ox D od) (h : Q (some (.ref D)) { s with toks := s.toks + 1 }) :
    wpAny (model prog w) A (getAttr? (.ref x) "__class__") Q E s := by
  have hsome : (clsIn K D).isSome = true := by
    obtain ⟨cd, e, _⟩ := any_some C.hd
    rw [e]
    rfl
  have found : findObj K D od "__class__" = some (.bind (.builtin "getset_descriptor.__get__") (.builtin "object.__class__")) := gx_find hsome C.ha C.hn C.ht
  rcases s with ⟨hp, g, d, t, os⟩
  have l0 := I.type (M := model prog w)
  have l1 := looks_findIn (M := model prog w) X C.hg
  have l2 := looks_findIn (M := model prog w) X C.hk
  have l3 := looks_find (M := model prog w) X I found
  have isE : Looks (model prog w) hp (isInstance (.ref x) (.type "BaseException")) true := l0.andThen (looks_subIn X C.hs)
  have no2 : (Value.builtin "BaseException.__getattribute__" == Value.builtin "object.__getattribute__") = false := by
    decide +kernel
  have no1 : (onTheHeap (Value.ref D) && Value.builtin "BaseException.__getattribute__" == Value.builtin "object.__getattribute__") = false := by
    rw [no2]
    rfl
  have no0 : (false && onTheHeap (Value.builtin "BaseException.__getattribute__")) = false := rfl
  unfold getAttr? getAttrBy? getAttrBy
  apply wpAny_bind
  refine wpAny_mkText (wpAny_bind (wpAny_attempt (wpAny_holding (wpAny_bind ?_))))
  refine l0.at (wpAny_bind (l1.at ?_))
  show wpAny _ _ (if (onTheHeap (Value.ref D) && Value.builtin "BaseException.__getattribute__" == Value.builtin "object.__getattribute__") = true then _ else _) _ _ _
  rw [no1, if_neg Bool.false_ne_true]
  unfold getAttrByItsOwn hookBefore
  apply wpAny_bind
  rw [if_pos (show onTheHeap (Value.ref D) = true from rfl)]
  refine l2.at (wpAny_bind (wpAny_attempt (wpAny_holding ?_)))
  unfold callGetattribute
  rw [no0, if_neg Bool.false_ne_true]
  unfold boundAndCalled
  rw [F.excAttr_ValueError.ga.bind (.ref x)]
  apply wpAny_bind
  apply wpAny_pure
  show wpAny _ _ (call (.builtin "BaseException.__getattribute__") [.ref x, .str "__class__" t]) _ _ _
  apply wpAny_call
  refine codeAny_call_builtin F.excAttr_ValueError.ga.plain F.entry_bexc_ga ?_
  refine @check_slot (model prog w) _ _
    ⟨hp, g, d, t + 1, os⟩ "BaseException.__getattribute__" "BaseException" "__getattribute__" (.ref x) [.str "__class__" t] [] _
    (by decide +kernel) (by decide +kernel) isE (F.args_bexc_ga (.ref x) (.str "__class__" t)) ?_
  unfold Builtin.«object.__getattribute__»
  apply wpAny_bind
  refine wpAny_of_eq (a := ((Value.ref x : Value), [Value.str "__class__" t])) (by first | rfl | (simp only [slotArgs]; rfl)) ?_
  apply wpAny_bind
  refine wpAny_pure (wpAny_bind (l0.at (wpAny_bind (l3.at ?_))))
  show wpAny _ _ (holding [Value.builtin "object.__class__"] (call (.builtin "getset_descriptor.__get__") [.builtin "object.__class__", .ref x, .ref D]) >>= ret) _ _ _
  apply wpAny_bind
  refine wpAny_holding (wpAny_call (class_get (s := ⟨hp, g, d, t + 1, os⟩) (ox := ox) (od := od) X I C.hm (wpAny_pure ?_)))
  show wpAny _ _ (handedOut (.ref D)) _ _ _
  rw [handedOut_of (v := .ref D) rfl]
  first
    | exact wpAny_pure (wpAny_bind (wpAny_pure (wpAny_pure h)))
    | exact wpAny_bind (wpAny_pure (wpAny_pure h))
    | exact wpAny_pure (wpAny_pure h)
theorem gx_kit (C : L2.ExcC K D) : KitX K (.ref x) (.ref D) (fun h => ∃ ox od, InstAt h x ox D od) := by
  have Z : KitX K (.ref x) (.ref D) (fun h => InstAt h x { cls := .ref D, data := .fields #[] } D none) := handS_kitx_exc C.hg C.hk C.hs C.hd C.ha C.hn C.ht C.hm
  have hsome : ∃ cd, clsIn K D = some cd := by
    obtain ⟨cd, e, _⟩ := any_some C.hd
    exact ⟨cd, e⟩
  constructor
  · rintro M h _ ⟨ox, od, I⟩
    exact I.type
  · rintro M h X _
    obtain ⟨cd, e⟩ := hsome
    unfold clsIn at e
    split at e
    · rename_i c' d' cd' sl' ho
      intro A' Q' E' s' k q
      unfold isType loadHead
      exact wpAny_bind (wpAny_loadPart (k _ _ (X _ _ ho)) (wpAny_pure q))
    · cases e
  · exact Z.ne
  · intro prog w A E Q s X hx q
    obtain ⟨ox, od, I⟩ := hx
    exact gx_class C X I q
end
end PySem.W
namespace GX
open PySem PySem.Spec PyProof.Rows L2
def keyD : Key → PyData
  | .inl i => .int i
  | .inr x => .str x
/-- a value as data: Dp, and dicts of ints -/
inductive Sh (K : PySem.W.Frag) (H : Hp) : V → PyData → Prop where
  | dp {x : V} {d : PyData} (h : Dp K H x d) (n : d.hasDict = false) : Sh K H x d
  | dct {a : Addr} {kvs : List (Key × Int)} (h : H a = some (.dK (kvs.map fun p => (p.1, V.int p.2)))) : Sh K H (.ref a) (.dict (kvs.map fun p => (keyD p.1, .int p.2)))
theorem reads_keys {P : Program} {w : World} {h : Heap} : ∀ {es : List DictEntry} {kvs : List (Key × Int)} {vs : List (Key × Value)},
    KV (kvs.map fun p => (p.1, V.int p.2)) vs → Pairs (mixKind P w) es vs →
    (∃ as, ReadsAll h (es.map (·.key)) ((kvs.map fun p => (keyD p.1, PyData.int p.2)).map (·.1)) as ∧ sysModules ∉ as) ∧
    ∃ bs, ReadsAll h (es.map (·.val)) ((kvs.map fun p => (keyD p.1, PyData.int p.2)).map (·.2)) bs ∧ sysModules ∉ bs
  | [], [], _, _, _ => ⟨⟨_, .nil, by simp⟩, ⟨_, .nil, by simp⟩⟩
  | [], _ :: _, _, r, p => by
    cases r
    cases p
  | _ :: _, [], _, r, p => by
    cases r
    cases p
  | e :: es, (k, i) :: kvs, _, r, p => by
    cases r with
    | cons q r2 =>
      cases p with
      | cons hk hv p2 =>
        obtain ⟨⟨as, A1, A2⟩, ⟨bs, B1, B2⟩⟩ := reads_keys (h := h) r2 p2
        obtain ⟨q1, q2⟩ := q
        obtain ⟨t, q3⟩ := q2
        refine ⟨?_, ?_⟩
        · have q0 := q1.symm ▸ hk
          rcases keyIs_shape hk with ⟨j, u, e1, e2⟩ | ⟨z, u, e1, e2⟩
          · have ek : k = Sum.inl j := q1.trans e1
            subst ek
            refine ⟨_, .cons (as := []) ?_ A1, by simpa using A2⟩
            show Reads h e.key (.int j) []
            rw [e2]
            exact .int j u
          · have ek : k = Sum.inr z := q1.trans e1
            subst ek
            refine ⟨_, .cons (as := []) ?_ A1, by simpa using A2⟩
            show Reads h e.key (.str z) []
            rw [e2]
            exact .str z u
        · refine ⟨_, .cons (as := []) ?_ B1, by simpa using B2⟩
          show Reads h e.val (.int i) []
          rw [hv, q3]
          exact .int i t
theorem Sh.reads {X : Cx} {pins : List (Addr × Obj)} {σ : L2.St} {H : Hp} {s : Shared} (I : Inv X pins σ H s) {x : V} {d : PyData} {u : Value} (h : Sh X.K H x d) (r : RelV x u) :
    ∃ as, Reads s.heap u d as ∧ (d.hasDict = true → sysModules ∉ as) := by
  cases h with
  | dp h n =>
    obtain ⟨as, q⟩ := Dp.reads I d x u h r
    refine ⟨as, q, fun z => ?_⟩
    rw [n] at z
    cases z
  | @dct a kvs h =>
    have e : u = Value.ref a := r
    subst e
    obtain ⟨_, nsys, vs, kv, o, es, ep, h1, h2, h3, _, h5, _⟩ := (show ObjOk X.prog X.w H s.heap a (.dK _) from I.hok a _ h)
    obtain ⟨⟨as, A1, A2⟩, ⟨bs, B1, B2⟩⟩ := reads_keys (h := s.heap) kv h5
    refine ⟨_, .dict h1 h2.1 h3 A1 B1, fun _ hm => ?_⟩
    rcases List.mem_append.mp hm with hm | hm
    · rcases List.mem_cons.mp hm with e | hm
      · rw [← e] at nsys
        simp at nsys
      · exact A2 hm
    · exact B2 hm
end GX
set_option Elab.async false
set_option linter.all false
set_option maxRecDepth 100000
set_option maxHeartbeats 2000000
namespace EN
open PySem PySem.Spec PyProof.Rows L2
end EN
set_option Elab.async false
set_option linter.all false
set_option maxRecDepth 100000
set_option maxHeartbeats 4000000
namespace MX
open PySem PySem.Spec PyProof.Rows L2 GX
section
variable [TabL] {K : PySem.W.Frag} {E : XS} {B : Bs} {G G1 H H1 : Hp} {σ : L2.St} {ρ : R}
def oI0 (g : Int → Int → T) : T → T → Option Vl
  | .int i, .int j => some (.val (g i j))
  | _, _ => none
def oI (C : Int → Int → Prop) [∀ i j, Decidable (C i j)] (g : Int → Int → T) : T → T → Option Vl
  | .int i, .int j => if C i j then some (.val (g i j)) else none
  | _, _ => none
instance : ∀ i j, Decidable (CMulW i j) := fun i j => by unfold CMulW; infer_instance
instance : ∀ i j, Decidable (CDiv i j) := fun i j => by unfold CDiv; infer_instance
instance : ∀ i j, Decidable (CMul i j) := fun i j => by unfold CMul; infer_instance
instance : ∀ i j, Decidable (CDivW i j) := fun i j => by unfold CDivW; infer_instance
instance : ∀ i j, Decidable (CDivN i j) := fun i j => by unfold CDivN; infer_instance
instance : ∀ i j, Decidable (CPow i j) := fun i j => by unfold CPow; infer_instance
theorem om_rI0 {gV : Int → Int → V} {g : Int → Int → T} (r : ∀ i j K G, Rep K G (gV i j) (g i j)) : OpM K (rI0 gV) (oI0 g) := fun B G H σ ρ x y tx ty z Q h vx vy e q => by
  unfold oI0 at e
  split at e
  · next i j =>
    cases e
    obtain rfl := vx.int
    obtain rfl := vy.int
    exact ⟨i, j, rfl, rfl, q _ G H (Same.refl G) h (r i j K G)⟩
  · cases e
theorem om_rI {C : Int → Int → Prop} [∀ i j, Decidable (C i j)] {gV : Int → Int → V} {g : Int → Int → T} (r : ∀ i j K G, Rep K G (gV i j) (g i j)) : OpM K (rI C gV) (oI C g) := fun B G H σ ρ x y tx ty z Q h vx vy e q => by
  unfold oI at e
  split at e
  · next i j =>
    split at e
    · next hc =>
      cases e
      obtain rfl := vx.int
      obtain rfl := vy.int
      exact ⟨i, j, rfl, rfl, hc, q _ G H (Same.refl G) h (r i j K G)⟩
    · cases e
  · cases e
abbrev oAdd := oI0 fun i j => .int (i + j)
abbrev oSub := oI0 fun i j => .int (i - j)
abbrev oMul := oI CMulW fun i j => .int (i * j)
abbrev oDivS := oI CDiv fun i j => .int (i / j)
abbrev oMulS := oI CMul fun i j => .int (i * j)
abbrev oDiv := oI CDivW fun i j => .int (i / j)
abbrev oMod := oI (fun _ j => 0 < j) fun i j => .int (i % j)
abbrev oPow := oI CPow fun i j => .int (i ^ j.toNat)
abbrev oLt := oI0 fun i j => .bl (decide (i < j))
abbrev oGt := oI0 fun i j => .bl (decide (j < i))
abbrev oGe := oI0 fun i j => .bl (decide (j ≤ i))
theorem om_add : OpM K (rI0 fun i j => .int (i + j)) oAdd := om_rI0 fun _ _ _ _ => .int _
theorem om_sub : OpM K (rI0 fun i j => .int (i - j)) oSub := om_rI0 fun _ _ _ _ => .int _
theorem om_mul : OpM K (rI CMulW fun i j => .int (i * j)) oMul := om_rI fun _ _ _ _ => .int _
theorem om_divS : OpM K (rI CDiv fun i j => .int (i / j)) oDivS := om_rI fun _ _ _ _ => .int _
theorem om_mulS : OpM K (rI CMul fun i j => .int (i * j)) oMulS := om_rI fun _ _ _ _ => .int _
theorem om_div : OpM K (rI CDivW fun i j => .int (i / j)) oDiv := om_rI fun _ _ _ _ => .int _
theorem om_mod : OpM K (rI (fun _ j => 0 < j) fun i j => .int (i % j)) oMod := om_rI fun _ _ _ _ => .int _
theorem om_pow : OpM K (rI CPow fun i j => .int (i ^ j.toNat)) oPow := om_rI fun _ _ _ _ => .int _
theorem om_lt : OpM K (rI0 fun i j => .bl (decide (i < j))) oLt := om_rI0 fun _ _ _ _ => .bl _
theorem om_gt : OpM K (rI0 fun i j => .bl (decide (j < i))) oGt := om_rI0 fun _ _ _ _ => .bl _
theorem om_ge : OpM K (rI0 fun i j => .bl (decide (j ≤ i))) oGe := om_rI0 fun _ _ _ _ => .bl _
/-- == of plain values of one kind -/
def eqT : T → T → Option Bool
  | .int i, .int j => some (decide (i = j))
  | .str i, .str j => some (decide (i = j))
  | .bl i, .bl j => some (decide (i = j))
  | .non, .non => some true
  | _, _ => none
def oEq (a b : T) : Option Vl := match eqT a b with
  | some c => some (.val (.bl c))
  | none => none
def oNe (a b : T) : Option Vl := match eqT a b with
  | some c => some (.val (.bl (!c)))
  | none => none
theorem eqT_ok {x y : V} {a b : T} {c : Bool} (vx : Vw K G H x a) (vy : Vw K G H y b) (e : eqT a b = some c) : scal x y = true ∧ decide (x = y) = c := by
  unfold eqT at e
  split at e <;> first | (cases e; done) | skip
  · cases e
    obtain rfl := vx.int
    obtain rfl := vy.int
    exact ⟨rfl, decide_eq_decide.mpr ⟨fun z => V.int.inj z, fun z => by rw [z]⟩⟩
  · cases e
    obtain rfl := vx.str
    obtain rfl := vy.str
    exact ⟨rfl, decide_eq_decide.mpr ⟨fun z => V.str.inj z, fun z => by rw [z]⟩⟩
  · cases e
    obtain rfl := vx.bl
    obtain rfl := vy.bl
    exact ⟨rfl, decide_eq_decide.mpr ⟨fun z => V.bl.inj z, fun z => by rw [z]⟩⟩
  · cases e
    obtain rfl := vx.non
    obtain rfl := vy.non
    exact ⟨rfl, rfl⟩
theorem om_ne : OpM K rNe oNe := fun B G H σ ρ x y tx ty z Q h vx vy e q => by
  unfold oNe at e
  split at e
  · next c hc =>
    cases e
    obtain ⟨h1, h2⟩ := eqT_ok vx vy hc
    subst h2
    exact ⟨h1, q _ G H (Same.refl G) h (.bl _)⟩
  · cases e
def isNon : T → Bool
  | .non => true
  | _ => false
def oIsN (a : T) : T → Option Vl
  | .non => some (.val (.bl (isNon a)))
  | _ => none
def oNotN (a : T) : T → Option Vl
  | .non => some (.val (.bl (!isNon a)))
  | _ => none
def oNeg : T → Option Vl
  | .int i => some (.val (.int (-i)))
  | _ => none
/-- xs[i] -/
def atT (ts : List T) (i : Int) : Option Vl := match atI ts i with
  | some t => some (.val t)
  | none => none
def oIx : T → T → Option Vl
  | .lst ts, .int i => atT ts i
  | .lsk ts, .int i => atT ts i
  | .tup ts, .int i => atT ts i
  | _, _ => none
theorem atI_reps {vs : List V} {ts : List T} {i : Int} {t : T} (r : Reps K G vs ts) (e : atI ts i = some t) : ∃ v, atI vs i = some v ∧ Rep K G v t := by
  unfold atI at e ⊢
  rw [r.len]
  cases hx : ixN ts.length i with
  | none =>
    rw [hx] at e
    cases e
  | some j =>
    rw [hx] at e
    exact r.get e
theorem om_ix : OpM K (rIx K) oIx := fun B G H σ ρ x y tx ty z Q h vx vy e q => by
  have fin : ∀ {vs : List V} {ts : List T} {i : Int}, Reps K G vs ts → atT ts i = some z → ∃ v, atI vs i = some v ∧ Q v H := fun {vs ts i} r e => by
    unfold atT at e
    split at e
    · next t ht =>
      cases e
      obtain ⟨v, hv, rv⟩ := atI_reps r ht
      exact ⟨v, hv, q v G H (Same.refl G) h rv⟩
    · cases e
  unfold oIx at e
  split at e
  · next ts i =>
    obtain ⟨a, vs, rfl, S, r⟩ := vx.lst h.sub
    obtain rfl := vy.int
    obtain ⟨v, hv, qv⟩ := fin r e
    exact .inl ⟨a, vs, i, v, rfl, rfl, SqL.of S, hv, qv⟩
  · next ts i =>
    obtain ⟨a, vs, rfl, S, r⟩ := vx.lsk h.sub
    obtain rfl := vy.int
    obtain ⟨v, hv, qv⟩ := fin r e
    exact .inl ⟨a, vs, i, v, rfl, rfl, S, hv, qv⟩
  · next ts i =>
    obtain ⟨a, vs, rfl, _, S, r⟩ := vx.tup h.sub
    obtain rfl := vy.int
    obtain ⟨v, hv, qv⟩ := fin r e
    exact .inr (.inl ⟨a, vs, i, v, rfl, rfl, S, hv, qv⟩)
  · cases e
def MP (K : PySem.W.Frag) (E : XS) (t : TO) (f : M (Option Int)) : Prop := ∀ B G H σ ρ (Q : Option Int → Hp → Prop), RS K B G H σ ρ → WnP K E B G σ (fun x ρ => ∀ G' H', Same G G' → RS K B G' H' σ ρ → Q x H') (f ρ) → t σ H Q
def pN : M (Option Int) := fun ρ => .ok none ρ
def isI' : T → Option (Option Int)
  | .int i => some (some i)
  | _ => none
def pS (f : M Vl) : M (Option Int) := fun ρ => bindR (f ρ) fun x ρ1 => opt (ap1 isI' (rdV ρ1 x)) ρ1
theorem mp_none : MP K E tNoPart pN := fun B G H σ ρ Q h w => w G H (Same.refl G) h
theorem mp_some {t : TE} {f : M Vl} (h : ME K E t f) : MP K E (tPart t) (pS f) := fun B G H σ ρ Q hs w => by
  refine h B G H σ ρ _ hs (WnP.imp (WnP.bind w) (Same.refl G) fun x ρ1 w1 v1 G1 H1 s1 h1 q1 => ?_)
  unfold opt at w1
  split at w1
  · next z ez =>
    unfold ap1 at ez
    split at ez
    · next tx ex =>
      cases tx with
      | int b =>
        cases ez
        obtain rfl := (rd_ok h1 q1 ex).int
        exact ⟨_, rfl, w1 G1 H1 s1 h1⟩
      | _ => cases ez
    · cases ez
  · cases w1
def cutT (xs : List T) (lo hi : Option Int) : List T := (xs.drop (HT.sIx xs.length 0 lo)).take (HT.sIx xs.length xs.length hi - HT.sIx xs.length 0 lo)
theorem cut_reps {vs : List V} {ts : List T} (r : Reps K G vs ts) (lo hi : Option Int) : Reps K G (cutV vs lo hi) (cutT ts lo hi) := by
  unfold cutV cutT
  rw [r.len]
  exact (r.drop _).take _
def slT (lo hi : Option Int) : T → Option Vl
  | .lst ts => some (.own (.lst (cutT ts lo hi)))
  | .lsk ts => some (.own (.lst (cutT ts lo hi)))
  | .tup ts => some (.val (.tup (cutT ts lo hi)))
  | _ => none
def eSl (f : M Vl) (l h : M (Option Int)) : M Vl := fun ρ => bindR (f ρ) fun x ρ1 => bindR (l ρ1) fun lo ρ2 => bindR (h ρ2) fun hi ρ3 => opt (ap1 (slT lo hi) (rdV ρ3 (stl x))) ρ3
def rSlq (K : PySem.W.Frag) : V → Option Int → Option Int → Hp → VK → Prop := fun x lo hi H Q => rSlL K x lo hi H Q ∨ rSlA K x lo hi H Q
theorem me_sl {te : TE} {tl th : TO} {f : M Vl} {l g : M (Option Int)} (he : ME K E te f) (hl : MP K E tl l) (hh : MP K E th g) : ME K E (tSl (rSlq K) te tl th) (eSl f l g) := fun B G H σ ρ Q hs w => by
  refine he B G H σ ρ _ hs (WnP.imp (WnP.bind w) (Same.refl G) fun x ρ1 w1 v1 G1 H1 s1 h1 q1 => ?_)
  obtain ⟨G2, s2, h2, q2⟩ := stl_ok h1 q1
  refine hl B G2 H1 σ ρ1 _ h2 (WnP.imp (WnP.bind w1) (s1.trans s2) fun lo ρ2 w2 G3 H3 s3 h3 => ?_)
  refine hh B G3 H3 σ ρ2 _ h3 (WnP.imp (WnP.bind w2) ((s1.trans s2).trans s3) fun hi ρ3 w3 G4 H4 s4 h4 => ?_)
  have s0 : Same G G4 := ((s1.trans s2).trans s3).trans s4
  unfold opt at w3
  split at w3
  · next z ez =>
    unfold ap1 at ez
    split at ez
    · next tx ex =>
      have vx := rd_ok h4 (VR.still (VR.still q2 (stl_still x) s3 (ρ' := ρ2) (H1 := H3)) (stl_still x) s4) ex
      cases tx with
      | lst ts =>
        cases ez
        obtain ⟨a, vs, rfl, S, r⟩ := vx.lst h4.sub
        refine .inl ⟨a, vs, rfl, SqL.of S, fun p hp => ?_⟩
        obtain ⟨h5, q5⟩ := new_own h4 hp (cut_reps r lo hi)
        exact w3 _ _ _ s0 h5 q5
      | lsk ts =>
        cases ez
        obtain ⟨a, vs, rfl, S, r⟩ := vx.lsk h4.sub
        refine .inl ⟨a, vs, rfl, S, fun p hp => ?_⟩
        obtain ⟨h5, q5⟩ := new_own h4 hp (cut_reps r lo hi)
        exact w3 _ _ _ s0 h5 q5
      | tup ts =>
        cases ez
        obtain ⟨a, vs, rfl, S', S, r⟩ := vx.tup h4.sub
        refine .inr ⟨a, vs, rfl, S, fun c => ?_, fun c p hp => ?_⟩
        · refine w3 _ _ _ s0 h4 (.tup S' ?_)
          have e := cut_reps r lo hi
          have ev : cutV vs lo hi = vs := by
            unfold cutV
            rw [c.1, c.2]
            simp
          rw [ev] at e
          exact e
        · obtain ⟨s5, h5, q5⟩ := new_tup h4 hp (cut_reps r lo hi)
          exact w3 _ _ _ (s0.trans s5) h5 q5
      | _ => cases ez
    · cases ez
  · cases w3
def revT : T → Option Vl
  | .lst ts => some (.own (.lst ts.reverse))
  | .lsk ts => some (.own (.lst ts.reverse))
  | _ => none
/-- list + list -/
def oCat : T → T → Option Vl
  | .lst a, .lst b => if a.length + b.length ≤ 16777216 then some (.own (.lst (a ++ b))) else none
  | _, _ => none
theorem om_cat : OpM K rCat oCat := fun B G H σ ρ x y tx ty z Q h vx vy e q => by
  unfold oCat at e
  split at e
  · next a b =>
    split at e
    · next hl =>
      cases e
      obtain ⟨p1, vs, rfl, S, r⟩ := vx.lst h.sub
      obtain ⟨p2, us, rfl, S2, r2⟩ := vy.lst h.sub
      have hz := sizeLine_eq
      refine ⟨p1, p2, vs, us, rfl, rfl, S, S2, by rw [r.len, r2.len]; omega, fun p hp => ?_⟩
      obtain ⟨h5, q5⟩ := new_own h hp (r.app r2)
      exact q _ _ _ (Same.refl G) h5 q5
    · cases e
  · cases e
/-- tuple + tuple -/
def oCatT : T → T → Option Vl
  | .tup a, .tup b => if a.length + b.length ≤ 16777216 then some (.val (.tup (a ++ b))) else none
  | _, _ => none
def rdA (ρ : R) : List Vl → Option (List T)
  | [] => some []
  | x :: xs => match rdV ρ x with
    | some t => match rdA ρ xs with
      | some ts => some (t :: ts)
      | none => none
    | none => none
abbrev Vws (K : PySem.W.Frag) (G H : Hp) : List V → List T → Prop := Paired (Vw K G H)
theorem rdA_ok : ∀ {xs : List Vl} {vs : List V} {ts : List T}, RS K B G H σ ρ → Paired (fun v x => VR K B G H σ ρ v x ∧ x.still = true) vs xs → rdA ρ xs = some ts → Vws K G H vs ts
  | [], _, _, h, .nil, e => by
    cases e
    exact .nil
  | x :: xs, v :: vs, ts, h, .cons ⟨q, _⟩ r, e => by
    unfold rdA at e
    split at e
    · next t e1 =>
      split at e
      · next us e2 =>
        cases e
        exact .cons (rd_ok h q e1) (rdA_ok h r e2)
      · cases e
    · cases e
def CallM (K : PySem.W.Frag) (r : List V → Hp → VK → Prop) (g : List T → Option Vl) : Prop := ∀ B G H σ ρ vs ts z Q, RS K B G H σ ρ → Vws K G H vs ts → g ts = some z →
  (∀ v G' H', Same G G' → RS K B G' H' σ ρ → VR K B G' H' σ ρ v z → Q v H') → r vs H Q
def eB (g : List T → Option Vl) (a : M (List Vl)) : M Vl := fun ρ => bindR (a ρ) fun xs ρ1 => opt (ap1 g (rdA ρ1 xs)) ρ1
theorem me_cb {r : List V → Hp → VK → Prop} {g : List T → Option Vl} {t : TA} {a : M (List Vl)} (o : CallM K r g) (h : MA K E t a) : ME K E (tCB r t) (eB g a) := fun B G H σ ρ Q hs w => by
  refine h B G H σ ρ _ hs (WnP.imp (WnP.bind w) (Same.refl G) fun xs ρ1 w1 vs G1 H1 s1 h1 q1 => ?_)
  unfold opt at w1
  split at w1
  · next z ez =>
    unfold ap1 at ez
    split at ez
    · next ts ex => exact o B G1 H1 σ ρ1 vs ts z Q h1 (rdA_ok h1 q1 ex) ez fun v G' H' s4 h4 q4 => w1 v G' H' (s1.trans s4) h4 q4
    · cases ez
  · cases w1
def bLen : List T → Option Vl
  | [.lst ts] => some (.val (.int ts.length))
  | [.lsk ts] => some (.val (.int ts.length))
  | [.tup ts] => some (.val (.int ts.length))
  | [.str z] => if z.length ≤ 16777216 then some (.val (.int z.length)) else none
  | _ => none
theorem cm_len : CallM K (fun xs H Q => ∃ x n, xs = [x] ∧ LenV K x H n ∧ Q (.int n) H) bLen := fun B G H σ ρ vs ts z Q h r e q => by
  unfold bLen at e
  split at e
  · next us =>
    cases e
    cases r with
    | cons a b =>
      cases b
      obtain ⟨p, ws, rfl, S, r⟩ := a.lst h.sub
      exact ⟨_, _, rfl, .inl ⟨ws, SqL.of S, rfl⟩, q _ _ _ (Same.refl G) h (by rw [r.len]; exact .int _)⟩
  · next us =>
    cases e
    cases r with
    | cons a b =>
      cases b
      obtain ⟨p, ws, rfl, S, r⟩ := a.lsk h.sub
      exact ⟨_, _, rfl, .inl ⟨ws, S, rfl⟩, q _ _ _ (Same.refl G) h (by rw [r.len]; exact .int _)⟩
  · next us =>
    cases e
    cases r with
    | cons a b =>
      cases b
      obtain ⟨p, ws, rfl, S', S, r⟩ := a.tup h.sub
      exact ⟨_, _, rfl, .inr ⟨ws, S, rfl⟩, q _ _ _ (Same.refl G) h (by rw [r.len]; exact .int _)⟩
  · next z =>
    split at e
    · next hl =>
      cases e
      cases r with
      | cons a b =>
        cases b
        obtain rfl := a.str
        have hz := sizeLine_eq
        exact ⟨_, _, rfl, ⟨by omega, rfl⟩, q _ _ _ (Same.refl G) h (.int _)⟩
    · cases e
  · cases e
def bI1 (g : Int → T) : List T → Option Vl
  | [.int i] => some (.val (g i))
  | _ => none
def bI2 (g : Int → Int → T) : List T → Option Vl
  | [.int i, .int j] => some (.val (g i j))
  | _ => none
theorem cm_i1 {gV : Int → V} {g : Int → T} (hr : ∀ i K G, Rep K G (gV i) (g i)) : CallM K (fun xs H Q => ∃ i, xs = [.int i] ∧ Q (gV i) H) (bI1 g) := fun B G H σ ρ vs ts z Q h r e q => by
  unfold bI1 at e
  split at e
  · next i =>
    cases e
    cases r with
    | cons a b =>
      cases b
      obtain rfl := a.int
      exact ⟨i, rfl, q _ _ _ (Same.refl G) h (hr i K G)⟩
  · cases e
theorem cm_i2 {gV : Int → Int → V} {g : Int → Int → T} (hr : ∀ i j K G, Rep K G (gV i j) (g i j)) : CallM K (fun xs H Q => ∃ i j, xs = [.int i, .int j] ∧ Q (gV i j) H) (bI2 g) := fun B G H σ ρ vs ts z Q h r e q => by
  unfold bI2 at e
  split at e
  · next i j =>
    cases e
    cases r with
    | cons a b =>
      cases b with
      | cons a2 b2 =>
        cases b2
        obtain rfl := a.int
        obtain rfl := a2.int
        exact ⟨i, j, rfl, q _ _ _ (Same.refl G) h (hr i j K G)⟩
  · cases e
abbrev bAbs := bI1 fun i => .int (if i < 0 then -i else i)
abbrev bMax := bI2 fun i j => .int (if j > i then j else i)
abbrev bMin := bI2 fun i j => .int (if j < i then j else i)
theorem cm_abs : CallM K (fun xs H Q => ∃ i, xs = [.int i] ∧ Q (.int (if i < 0 then -i else i)) H) bAbs := cm_i1 fun _ _ _ => .int _
def bInt : List T → Option Vl
  | [.int i] => some (.val (.int i))
  | [.bl k] => some (.val (.int (if k then 1 else 0)))
  | _ => none
theorem cm_int : CallM K (fun xs H Q => (∃ i, xs = [.int i] ∧ Q (.int i) H) ∨ ∃ k, xs = [.bl k] ∧ Q (.int (if k then 1 else 0)) H) bInt := fun B G H σ ρ vs ts z Q h r e q => by
  unfold bInt at e
  split at e
  · next i =>
    cases e
    cases r with
    | cons a b =>
      cases b
      obtain rfl := a.int
      exact .inl ⟨i, rfl, q _ _ _ (Same.refl G) h (.int _)⟩
  · next i =>
    cases e
    cases r with
    | cons a b =>
      cases b
      obtain rfl := a.bl
      exact .inr ⟨i, rfl, q _ _ _ (Same.refl G) h (.int _)⟩
  · cases e
def bTup : List T → Option Vl
  | [.lst ts] => some (.val (.tup ts))
  | [.lsk ts] => some (.val (.tup ts))
  | [.tup ts] => some (.val (.tup ts))
  | _ => none
def bLst : List T → Option Vl
  | [.lst ts] => some (.own (.lst ts))
  | [.lsk ts] => some (.own (.lst ts))
  | [.tup ts] => some (.own (.lst ts))
  | _ => none
/-- isinstance with a built-in class -/
def tyN : T → Option String
  | .non => some "NoneType"
  | .bl _ => some "bool"
  | .int _ => some "int"
  | .str _ => some "str"
  | .tup _ => some "tuple"
  | .lst _ => some "list"
  | .edc => some "dict"
  | _ => none
theorem tyT {a : Addr} {xs : List V} (h : SqT K H a xs) : TyX K H (.ref a) (.type "tuple") := by
  rcases h with (h | ⟨o, h⟩) | ⟨o, its, n, hk, hc, _⟩
  · exact .base (.tup h)
  · exact .fTuple h
  · exact .kTuple hk hc
theorem tyN_ok {v : V} {t : T} {n : String} (s : Same G H) (h : Vw K G H v t) (e : tyN t = some n) : TyX K H v (.type n) := by
  unfold tyN at e
  split at e <;> first | (cases e; done) | skip
  · cases e
    obtain rfl := h.non
    exact .base .non
  · cases e
    obtain rfl := h.bl
    exact .base (.bl _)
  · cases e
    obtain rfl := h.int
    exact .base (.int _)
  · cases e
    obtain rfl := h.str
    exact .base (.str _)
  · cases e
    obtain ⟨a, vs, rfl, _, S, _⟩ := h.tup s
    exact tyT S
  · cases e
    obtain ⟨a, vs, rfl, S, _⟩ := h.lst s
    exact .base (.lst S)
  · cases e
    obtain ⟨a, rfl, S⟩ := h.edc s
    exact .base (.dK S)
def bIsi : List T → Option Vl
  | [t, .ty m] => match tyN t with
    | some n => match kitB n m with
      | some b => some (.val (.bl b))
      | none => none
    | none => none
  | _ => none
theorem cm_isi : CallM K (rIsi K) bIsi := fun B G H σ ρ vs ts z Q h r e q => by
  unfold bIsi at e
  split at e
  · next t m =>
    split at e
    · next n hn =>
      split at e
      · next b hb =>
        cases e
        cases r with
        | cons a r =>
          cases r with
          | cons a2 r =>
            cases r
            obtain rfl := a2.ty
            exact ⟨_, _, _, _, b, rfl, .ty m, tyN_ok h.sub a hn, kit_ty hb, q _ _ _ (Same.refl G) h (.bl _)⟩
      · cases e
    · cases e
  · cases e
mutual
/-- as data -/
def toD : T → Option PyData
  | .non => some .none
  | .bl b => some (.bool b)
  | .int i => some (.int i)
  | .str x => some (.str x)
  | .tup ts => match toDs ts with
    | some ds => some (.tuple ds)
    | none => none
  | .lst ts => match toDs ts with
    | some ds => some (.list ds)
    | none => none
  | _ => none
def toDs : List T → Option (List PyData)
  | [] => some []
  | t :: ts => match toD t, toDs ts with
    | some d, some ds => some (d :: ds)
    | _, _ => none
end
mutual
theorem toD_ok : ∀ {v : V} {t : T} {d : PyData}, Rep K G v t → toD t = some d → Dp K G v d
  | _, _, _, .non, e => by cases e; exact .non
  | _, _, _, .bl b, e => by cases e; exact .bl b
  | _, _, _, .int b, e => by cases e; exact .int b
  | _, _, _, .str b, e => by cases e; exact .str b
  | _, _, _, .ty _, e => by cases e
  | _, _, _, .adr _, e => by cases e
  | _, _, _, .lsk _ _, e => by cases e
  | _, _, _, .obj _ _, e => by cases e
  | _, _, _, .cls _, e => by cases e
  | _, .tup ts, _, .tup S r, e => by
    unfold toD at e
    split at e
    · next ds hd =>
      cases e
      exact .tup S (toDs_ok r hd)
    · cases e
  | _, .lst ts, _, .lst S r, e => by
    unfold toD at e
    split at e
    · next ds hd =>
      cases e
      exact .lst (SqL.of S) (toDs_ok r hd)
    · cases e
theorem toDs_ok : ∀ {v : List V} {t : List T} {d : List PyData}, Reps K G v t → toDs t = some d → DpAll K G v d
  | _, _, _, .nil, e => by cases e; exact .nil
  | _, _, _, .cons r rs, e => by
    unfold toDs at e
    split at e
    · next d ds h1 h2 =>
      cases e
      exact .cons (toD_ok r h1) (toDs_ok rs h2)
    · cases e
end
mutual
theorem dp_mono (s : Same G H) : ∀ {v : V} {d : PyData}, Dp K G v d → Dp K H v d
  | _, _, .non => .non
  | _, _, .bl b => .bl b
  | _, _, .int b => .int b
  | _, _, .str b => .str b
  | _, _, .lst S r => .lst (s.seq S) (dpA_mono s r)
  | _, _, .tup S r => .tup (seqT s S) (dpA_mono s r)
theorem dpA_mono (s : Same G H) : ∀ {v : List V} {d : List PyData}, DpAll K G v d → DpAll K H v d
  | _, _, .nil => .nil
  | _, _, .cons r rs => .cons (dp_mono s r) (dpA_mono s rs)
end
theorem vwD {v : V} {t : T} {d : PyData} (s : Same G H) (h : Vw K G H v t) (e : toD t = some d) : Dp K H v d := by
  cases h with
  | fz r => exact dp_mono s (toD_ok r e)
  | own e1 r =>
    cases r with
    | lst r =>
      rw [show OC.fix (.lst _) = T.lst _ from rfl] at e
      unfold toD at e
      split at e
      · next ds hd =>
        cases e
        exact .lst (SqL.of e1) (dpA_mono s (toDs_ok r hd))
      · cases e
    | ins r => cases e
    | dct r => cases e
def bRepr : List T → Option Vl
  | [t] => match toD t with
    | some d => if d.showable = true ∧ d.depth ≤ 100 ∧ d.shown.length ≤ 16777216 then some (.val (.str d.shown)) else none
    | none => none
  | _ => none
end
end MX
set_option Elab.async false
set_option linter.all false
set_option maxRecDepth 100000
set_option maxHeartbeats 4000000
namespace MX
open PySem PySem.Spec PyProof.Rows L2 GX
section
variable [TabL] {K : PySem.W.Frag} {E : XS} {B : Bs} {G G1 H H1 : Hp} {σ : L2.St} {ρ : R}
abbrev S := R → Out
def after {α : Type} (r : Res α) (f : α → S) : Out := match r with
  | .ok x ρ => f x ρ
  | .ex C fs ρ => .ex C fs ρ
  | .bot => .bot
/-- from an expression's end to a statement's -/
theorem to_s {α : Type} {D : Ends} {r : Res α} {f : α → S} {p : α → R → Prop} (w : WnS K E B D (after r f)) (k : ∀ x ρ, WnS K E B D (f x ρ) → p x ρ) : WnP K E B G σ p r := by
  cases r with
  | ok x ρ => exact k x ρ w
  | ex C fs ρ => exact fun d G' H' fv _ h1 h0 h2 h3 => w d G' H' σ fv h1 h0 h2 h3
  | bot => exact w
def sNx : S := fun ρ => .nx ρ
def sSeq (f g : S) : S := fun ρ => match f ρ with
  | .nx ρ1 => g ρ1
  | o => o
theorem ms_nil : MS K E tNext sNx := fun B G H σ ρ D h w => w G H σ h
theorem ms_seq {t u : TS} {f g : S} (hf : MS K E t f) (hg : MS K E u g) : MS K E (tSeq t u) (sSeq f g) := fun B G H σ ρ D h w => by
  refine hf B G H σ ρ _ h ?_
  unfold sSeq at w
  cases e : f ρ with
  | nx ρ1 =>
    rw [e] at w
    exact fun G' H' σ' h' => hg B G' H' σ' ρ1 D h' w
  | bk ρ1 => rw [e] at w; exact w
  | ct ρ1 => rw [e] at w; exact w
  | rt x ρ1 => rw [e] at w; exact w
  | ex C fs ρ1 => rw [e] at w; exact w
  | bot => rw [e] at w; exact w
def sIf (c : M Bool) (f g : S) : S := fun ρ => after (c ρ) fun b ρ1 => if b = true then f ρ1 else g ρ1
theorem ms_if {tc : TT} {t u : TS} {c : M Bool} {f g : S} (hc : MT K E tc c) (hf : MS K E t f) (hg : MS K E u g) : MS K E (tIfS tc t u) (sIf c f g) := fun B G H σ ρ D h w => by
  refine hc B G H σ ρ _ h (to_s w fun b ρ1 w1 G1 H1 s1 h1 => ?_)
  cases b with
  | true => exact hf B G1 H1 σ ρ1 D h1 w1
  | false => exact hg B G1 H1 σ ρ1 D h1 w1
def sX (f : M Vl) : S := fun ρ => after (f ρ) fun _ ρ1 => .nx ρ1
theorem ms_expr {t : TE} {f : M Vl} (hf : ME K E t f) : MS K E (tDrop t) (sX f) := fun B G H σ ρ D h w => hf B G H σ ρ _ h (to_s w fun b ρ1 w1 v G1 H1 s1 h1 _ => w1 G1 H1 σ h1)
def sRetN : S := fun ρ => .rt (.val .non) ρ
def outV (x : Vl) : S := fun ρ => match x with
  | .val t => .rt (.val t) ρ
  | .own c => .rt (.own c) ρ
  | .sl i => match ρ[i]? with
    | some (.fz t) => .rt (.val t) ρ
    | some (.ow c) => .rt (.own c) (ρ.set i .no)
    | _ => .bot
def sRet (f : M Vl) : S := fun ρ => after (f ρ) outV
theorem ms_ret {t : TE} {f : M Vl} (hf : ME K E t f) : MS K E (tRet t) (sRet f) := fun B G H σ ρ D h w => by
  refine hf B G H σ ρ _ h (to_s w fun x ρ1 w1 v G1 H1 s1 h1 q1 => ?_)
  cases x with
  | val t => exact w1 v G1 H1 σ h1 q1
  | own c => exact w1 v G1 H1 σ h1 q1
  | sl i =>
    have q : σ[i]? = some (some v) := q1
    unfold outV at w1
    dsimp only at w1
    split at w1
    · next u hu =>
      obtain ⟨y, ey, r⟩ := h1.rel i _ _ hu q
      obtain rfl := Option.some.inj ey
      exact w1 v G1 H1 σ h1 r
    · next c hc =>
      obtain ⟨a, o, rfl, h2, r, n, oi, no⟩ := own_of h1 (.inl hc) q
      have h3 := h1.put (i := i) (v := some (.ref a)) (x := .no) (fun y ey => by rw [hc] at ey; cases ey; rfl) rfl trivial
      refine w1 _ G1 H1 _ h3 ⟨a, o, rfl, h2, r, n, fun j z => ?_, h1.own i a oi⟩
      obtain ⟨z1, z2⟩ := own_put rfl z
      exact no j z1 z2
    · cases w1
/-- x = e -/
def putV (i : Nat) (x : Vl) : S := fun ρ => match x with
  | .own c => .nx (ρ.set i (.ow c))
  | x => match fixV ρ x with
    | some (t, ρ1) => .nx (ρ1.set i (.fz t))
    | none => .bot
def putS (i : Nat) (x : Vl) : S := fun ρ => match ρ[i]? with
  | some y => if y.isIo = true then .bot else putV i x ρ
  | none => .bot
theorem fix_io {x : Vl} {t : T} {ρ' : R} {i : Nat} (e : fixV ρ x = some (t, ρ')) (hi : ∀ y, ρ[i]? = some y → y.isIo = false) : ∀ y, ρ'[i]? = some y → y.isIo = false := by
  cases x with
  | val u => cases e; exact hi
  | own c => cases e; exact hi
  | sl j =>
    unfold fixV at e
    dsimp only at e
    split at e
    · cases e; exact hi
    · cases e
      intro y ey
      by_cases c : i = j
      · subst c
        rw [set_eq' ey]
        rfl
      · rw [set_ne' c] at ey
        exact hi y ey
    · cases e
theorem putS_ok {D : Ends} {i : Nat} {x : Vl} {v : V} (h : RS K B G H σ ρ) (q : VR K B G H σ ρ v x) (w : WnS K E B D (putS i x ρ)) : D.nx (σ.set i (some v)) H := by
  have io : ∀ y, ρ[i]? = some y → y.isIo = false := fun y ey => by
    unfold putS at w
    rw [ey] at w
    cases hy : y.isIo with
    | true =>
      dsimp only at w
      rw [if_pos hy] at w
      cases w
    | false => rfl
  have w' : WnS K E B D (putV i x ρ) := by
    unfold putS at w
    split at w
    · next y ey =>
      rw [if_neg (by rw [io y ey]; exact Bool.false_ne_true)] at w
      exact w
    · cases w
  have plain : ∀ t ρ1, fixV ρ x = some (t, ρ1) → (∀ G H σ, RS K B G H σ (ρ1.set i (.fz t)) → D.nx σ H) → D.nx (σ.set i (some v)) H := fun t ρ1 e w => by
    obtain ⟨G', s, h', r⟩ := fix_ok h q e
    exact w G' H _ (h'.put (fix_io e io) rfl ⟨v, rfl, r⟩)
  cases x with
  | own c =>
    obtain ⟨a, o, rfl, h2, r, n, no, z⟩ := q
    exact w' G H _ (h.putO io h2 r n (fun j _ => no j) z)
  | val t =>
    unfold putV at w'
    dsimp only at w'
    split at w'
    · next t ρ1 e => exact plain t ρ1 e w'
    · cases w'
  | sl j =>
    unfold putV at w'
    dsimp only at w'
    split at w'
    · next t ρ1 e => exact plain t ρ1 e w'
    · cases w'
def sSet (i : Nat) (f : M Vl) : S := fun ρ => after (f ρ) (putS i)
theorem ms_set {i : Nat} {t : TE} {f : M Vl} (hf : ME K E t f) : MS K E (tAsg t (gName i)) (sSet i f) := fun B G H σ ρ D h w => by
  refine hf B G H σ ρ _ h (to_s w fun x ρ1 w1 v G1 H1 s1 h1 q1 => ?_)
  exact putS_ok h1 q1 w1
/-- targets of things that stay -/
def MG (K : PySem.W.Frag) (g : TG) (is : List Nat) (f : T → R → Option R) : Prop := ∀ B G H σ ρ v t ρ' Q, RS K B G H σ ρ → Rep K G v t → f t ρ = some ρ' →
  (∀ σ', RS K B G H σ' ρ' → (∀ j, j ∉ is → σ'[j]? = σ[j]?) → σ'.length = σ.length → Q σ' H) → g v σ H Q
def gN (i : Nat) (t : T) (ρ : R) : Option R := match ρ[i]? with
  | some y => if y.isIo = true then none else some (ρ.set i (.fz t))
  | none => none
theorem mg_name {i : Nat} : MG K (gName i) [i] (gN i) := fun B G H σ ρ v t ρ' Q h r e q => by
  have io : ∀ y, ρ[i]? = some y → y.isIo = false := fun y ey => by
    unfold gN at e
    rw [ey] at e
    cases hy : y.isIo with
    | true =>
      dsimp only at e
      rw [if_pos hy] at e
      cases e
    | false => rfl
  have e' : ρ' = ρ.set i (.fz t) := by
    unfold gN at e
    split at e
    · next y ey =>
      rw [if_neg (by rw [io y ey]; exact Bool.false_ne_true)] at e
      exact (Option.some.inj e).symm
    · cases e
  subst e'
  refine q _ (h.put io rfl ⟨v, rfl, r⟩) (fun j hj => set_ne' (by simpa using hj)) (List.length_set ..)
def MGs (K : PySem.W.Frag) (g : TGs) (is : List Nat) (f : List T → R → Option R) : Prop := ∀ B G H σ ρ vs ts ρ' (Q : L2.St → Hp → Prop), RS K B G H σ ρ → Reps K G vs ts → f ts ρ = some ρ' →
  (∀ σ', RS K B G H σ' ρ' → (∀ j, j ∉ is → σ'[j]? = σ[j]?) → σ'.length = σ.length → Q σ' H) → vs.length = ts.length ∧ g vs σ H Q
def gn (ts : List T) (ρ : R) : Option R := match ts with
  | [] => some ρ
  | _ => none
def gc (f : T → R → Option R) (fs : List T → R → Option R) (ts : List T) (ρ : R) : Option R := match ts with
  | t :: ts => match f t ρ with
    | some ρ1 => fs ts ρ1
    | none => none
  | [] => none
theorem mgs_nil : MGs K gNil [] gn := fun B G H σ ρ vs ts ρ' Q h r e q => by
  cases r with
  | nil =>
    cases e
    exact ⟨rfl, rfl, q σ h (fun _ _ => rfl) rfl⟩
  | cons => cases e
theorem mgs_cons {g : TG} {gs : TGs} {is js : List Nat} {f : T → R → Option R} {fs : List T → R → Option R} (h1 : MG K g is f) (h2 : MGs K gs js fs) : MGs K (gCons g gs) (is ++ js) (gc f fs) := fun B G H σ ρ vs ts ρ' Q h r e q => by
  cases r with
  | nil => cases e
  | @cons v t vs ts r rs =>
    unfold gc at e
    dsimp only at e
    split at e
    · next ρ1 e1 =>
      refine ⟨by rw [List.length_cons, List.length_cons, rs.len], v, vs, rfl, h1 B G H σ ρ v t ρ1 _ h r e1 fun σ1 h1 k1 l1 => ?_⟩
      refine (h2 B G H σ1 ρ1 vs ts ρ' _ h1 rs e fun σ2 h2 k2 l2 => q σ2 h2 (fun j hj => ?_) (l2.trans l1)).2
      have h3 : j ∉ is ∧ j ∉ js := by
        simp at hj
        exact hj
      exact (k2 j h3.2).trans (k1 j h3.1)
    · cases e
def gT (n : Nat) (fs : List T → R → Option R) (t : T) (ρ : R) : Option R := match t with
  | .tup ts => if ts.length = n then fs ts ρ else none
  | _ => none
theorem mg_tup {n : Nat} {gs : TGs} {is : List Nat} {fs : List T → R → Option R} (h1 : MGs K gs is fs) : MG K (gTup K n gs) is (gT n fs) := fun B G H σ ρ v t ρ' Q h r e q => by
  cases r with
  | @tup a vs ts S r =>
    unfold gT at e
    dsimp only at e
    split at e
    · next hn => exact ⟨a, vs, rfl, seqT h.sub S, by rw [r.len, hn], (h1 B G H σ ρ vs ts ρ' Q h r e q).2⟩
    · cases e
  | _ => cases e
/-- a, b = e -/
def sTup (g : T → R → Option R) (f : M Vl) : S := fun ρ => after (f ρ) fun x ρ1 => match fixV ρ1 x with
  | some (t, ρ2) => match g t ρ2 with
    | some ρ3 => .nx ρ3
    | none => .bot
  | none => .bot
/-- a, b = e1, e2: both sides written -/
def sPar (i j : Nat) (as : M (List Vl)) : S := fun ρ => after (as ρ) fun xs ρ1 => match fixA ρ1 xs with
  | some ([t, u], ρ2) => match gN i t ρ2 with
    | some ρ3 => match gN j u ρ3 with
      | some ρ4 => .nx ρ4
      | none => .bot
    | none => .bot
  | _ => .bot
theorem ms_par {i j : Nat} {ta : TA} {as : M (List Vl)} (ha : MA K E ta as) : MS K E (tPar i j ta) (sPar i j as) := fun B G H σ ρ D h w => by
  refine ha B G H σ ρ _ h (to_s w fun xs ρ1 w1 vs G1 H1 s1 h1 q1 => ?_)
  split at w1
  · next t u ρ2 e =>
    obtain ⟨G2, s2, h2, r2⟩ := fixA_ok h1 q1 e
    split at w1
    · next ρ3 e3 =>
      split at w1
      · next ρ4 e4 =>
        cases r2 with
        | @cons v _ vs _ r r2 =>
          cases r2 with
          | @cons v2 _ vs _ r' r2 =>
            cases r2
            refine ⟨v, v2, rfl, ?_⟩
            refine mg_name B G2 H1 σ ρ2 v t ρ3 (fun σ1 _ => D.nx (σ1.set j (some v2)) H1) h2 r e3 fun σ1 h3 _ _ => ?_
            exact mg_name B G2 H1 σ1 ρ3 v2 u ρ4 (fun σ2 _ => D.nx σ2 H1) h3 r' e4 fun σ2 h4 _ _ => w1 G2 H1 σ2 h4
      · cases w1
    · cases w1
  · cases w1
/-- x op= e -/
def sAug (g : T → T → Option Vl) (i : Nat) (f : M Vl) : S := fun ρ => match ρ[i]? with
  | some (.fz t) => after (f ρ) fun y ρ1 => match ap2 g (some t) (rdV ρ1 y) with
    | some z => putS i z ρ1
    | none => .bot
  | _ => .bot
end
end MX
set_option Elab.async false
set_option linter.all false
set_option maxRecDepth 100000
set_option maxHeartbeats 4000000
namespace EN
open PySem PySem.Spec PyProof.Rows L2 GX
section
variable {X : Cx} {tg : Expr}
def iSeq (K : PySem.W.Frag) (tl : TE) : TI := fun σ H R => tl σ H fun x H1 => ∃ a xs, x = .ref a ∧ ((SqL K H1 a xs ∧ R (Itl K a) H1) ∨ (SqT K H1 a xs ∧ R (Itt K a) H1))
theorem pi_seq {l : Expr} {tl : TE} (hl : PE X l tl) : PI X tg l (iSeq X.K tl) := by
  refine ⟨fun pins s σ H R I h => ?_⟩
  refine thn (hl.run pins s σ H _ I h) fun v s1 ⟨x, H1, I1, r1, q1⟩ => ?_
  obtain ⟨a, xs, e, q⟩ := q1
  subst e
  cases r1
  rcases q with ⟨hq, q⟩ | ⟨hq, q⟩
  · obtain ⟨its, rv, p, hz⟩ := I1.list hq
    refine wpAny_pyIter_list p.isList ?_
    refine ⟨s1.heap.objs.size, [s1.heap.objs.size], _, _, H1, rfl, I1.kept (t' := s1.toks) fun b o e => Heap.get?_push_of_some _ e, turn_list a _, ⟨_, Heap.get?_push_size _ rfl, rfl, rfl⟩, fun b hb => ?_, q⟩
    have e : b = s1.heap.objs.size := by simpa using hb
    subst e
    exact I1.fpOk (Nat.le_refl _) (I1.hok.fresh (Nat.le_refl _))
  · obtain ⟨its, rv, p, hz⟩ := I1.tuple hq
    refine wpAny_pyIter_tuple (show s1.heap.IsTuple a its.toArray from p) ?_
    refine ⟨s1.heap.objs.size, [s1.heap.objs.size], _, _, H1, rfl, I1.kept (t' := s1.toks) fun b o e => Heap.get?_push_of_some _ e, turn_tuple a _, ⟨_, Heap.get?_push_size _ rfl, rfl, rfl⟩, fun b hb => ?_, q⟩
    have e : b = s1.heap.objs.size := by simpa using hb
    subst e
    exact I1.fpOk (Nat.le_refl _) (I1.hok.fresh (Nat.le_refl _))
end
end EN
set_option Elab.async false
set_option linter.all false
set_option maxRecDepth 100000
set_option maxHeartbeats 4000000
namespace MX
open PySem PySem.Spec PyProof.Rows L2 GX
section
variable [TabL] {K : PySem.W.Frag} {E : XS} {B : Bs} {G G1 H H1 : Hp} {σ : L2.St} {ρ : R}
def YOk (K : PySem.W.Frag) (G H : Hp) (x : V) (H' : Hp) (t : T) : Prop := (H' = H ∧ Rep K G x t) ∨ ∃ p vs ts, x = .ref p ∧ H p = none ∧ H' = upd H p (.tup vs) ∧ t = .tup ts ∧ Reps K G vs ts
def Wk (K : PySem.W.Frag) (G : Hp) (J : It) (its : List T) : Prop := ∃ Y, Walk J its.length (fun H => Same G H) Y ∧ ∀ i H x H' t, its[i]? = some t → Same G H → Y i H x H' → YOk K G H x H' t
def MI (K : PySem.W.Frag) (E : XS) (wi : TI) (f : M (List T)) : Prop := ∀ B G H σ ρ (Q : It → Hp → Prop), RS K B G H σ ρ →
  WnP K E B G σ (fun its ρ' => ∀ J G' H', Same G G' → RS K B G' H' σ ρ' → Wk K G' J its → Q J H') (f ρ) → wi σ H Q
/-- the item at a turn, the state with it -/
theorem YOk.rs {x : V} {H' : Hp} {t : T} (h : RS K B G1 H σ ρ) (s : Same G G1) (y : YOk K G H x H' t) : ∃ G', Same G1 G' ∧ RS K B G' H' σ ρ ∧ Rep K G' x t := by
  rcases y with ⟨rfl, r⟩ | ⟨p, vs, ts, rfl, hp, rfl, rfl, r⟩
  · exact ⟨G1, Same.refl _, h, r.mono s⟩
  · obtain ⟨s5, h5, q5⟩ := new_tup h hp (r.mono s)
    exact ⟨_, s5, h5, q5⟩
theorem wk_list {a : Addr} {vs : List V} {ts : List T} (S : SqL K G a vs) (r : Reps K G vs ts) : Wk K G (Itl K a) ts := by
  refine ⟨YAt vs, (by rw [← r.len]; exact (walk_list (K := K) (a := a) (xs := vs)).mono (fun H s => s.seq S) fun i H x H' _ _ y => y), fun i H x H' t e s y => ?_⟩
  obtain ⟨e1, e2⟩ := y
  obtain ⟨v, ev, rv⟩ := r.get e
  rw [ev] at e2
  cases e2
  exact .inl ⟨e1, rv⟩
theorem wk_tup {a : Addr} {vs : List V} {ts : List T} (S : SqT K G a vs) (r : Reps K G vs ts) : Wk K G (Itt K a) ts := by
  refine ⟨YAt vs, (by rw [← r.len]; exact (walk_tup (K := K) (a := a) (xs := vs)).mono (fun H s => seqT s S) fun i H x H' _ _ y => y), fun i H x H' t e s y => ?_⟩
  obtain ⟨e1, e2⟩ := y
  obtain ⟨v, ev, rv⟩ := r.get e
  rw [ev] at e2
  cases e2
  exact .inl ⟨e1, rv⟩
def rngT (lo c : Int) (n : Nat) : List T := (List.range n).map fun (i : Nat) => T.int (lo + i * c)
theorem rngT_len (lo c : Int) (n : Nat) : (rngT lo c n).length = n := by unfold rngT; simp
theorem rngT_get {lo c : Int} {n i : Nat} {t : T} (e : (rngT lo c n)[i]? = some t) : t = .int (lo + i * c) := by
  unfold rngT at e
  rw [List.getElem?_map] at e
  have hi : i < n := by
    by_cases c : i < n
    · exact c
    · rw [List.getElem?_eq_none (by simp; omega)] at e
      cases e
  rw [List.getElem?_range hi] at e
  cases e
  rfl
theorem wk_rng {lo : Int} {n : Nat} : Wk K G (Itr lo n) (rngT lo 1 n) := by
  refine ⟨YFn fun i => .int (lo + i), (by rw [rngT_len]; exact (walk_range (lo := lo) (n := n)).mono (fun H s => trivial) fun i H x H' _ _ y => y), fun i H x H' t e s y => ?_⟩
  obtain ⟨e1, e2⟩ := y
  have := rngT_get e
  subst this e2
  rw [Int.mul_one]
  exact .inl ⟨e1, .int _⟩
def enT (ts : List T) : List T := ts.zipIdx.map fun p => .tup [.int (p.2 : Nat), p.1]
def zipT (ts us : List T) : List T := (ts.zip us).map fun p => .tup [p.1, p.2]
/-- a thing that is walked: from now on it stays -/
theorem Rep.lst' {v : V} {ts : List T} (r : Rep K G v (.lst ts)) : ∃ a vs, v = .ref a ∧ SqL K G a vs ∧ Reps K G vs ts := by
  cases r with
  | lst h r => exact ⟨_, _, rfl, SqL.of h, r⟩
theorem Rep.lsk' {v : V} {ts : List T} (r : Rep K G v (.lsk ts)) : ∃ a vs, v = .ref a ∧ SqL K G a vs ∧ Reps K G vs ts := by
  cases r with
  | lsk h r => exact ⟨_, _, rfl, h, r⟩
theorem Rep.tup' {v : V} {ts : List T} (r : Rep K G v (.tup ts)) : ∃ a vs, v = .ref a ∧ SqT K G a vs ∧ Reps K G vs ts := by
  cases r with
  | tup h r => exact ⟨_, _, rfl, h, r⟩
def lstOf : T → Option (List T)
  | .lst ts => some ts
  | .lsk ts => some ts
  | _ => none
def tupOf : T → Option (List T)
  | .tup ts => some ts
  | _ => none
def iF (g : T → Option (List T)) (f : M Vl) : M (List T) := fun ρ => bindR (f ρ) fun x ρ1 => match fixV ρ1 x with
  | some (t, ρ2) => opt (g t) ρ2
  | none => .bot
def seqOf : T → Option (List T)
  | .lst ts => some ts
  | .lsk ts => some ts
  | .tup ts => some ts
  | _ => none
theorem seqOf_ok {v : V} {t : T} {ts : List T} (r : Rep K G v t) (e : seqOf t = some ts) : ∃ a vs, v = .ref a ∧ (SqL K G a vs ∨ SqT K G a vs) ∧ Reps K G vs ts := by
  cases t with
  | lst us =>
    cases e
    obtain ⟨a, vs, h1, h2, h3⟩ := r.lst'
    exact ⟨a, vs, h1, .inl h2, h3⟩
  | lsk us =>
    cases e
    obtain ⟨a, vs, h1, h2, h3⟩ := r.lsk'
    exact ⟨a, vs, h1, .inl h2, h3⟩
  | tup us =>
    cases e
    obtain ⟨a, vs, h1, h2, h3⟩ := r.tup'
    exact ⟨a, vs, h1, .inr h2, h3⟩
  | _ => cases e
theorem mi_seq {te : TE} {f : M Vl} (hf : ME K E te f) : MI K E (EN.iSeq K te) (iF seqOf f) := fun B G H σ ρ Q h w => by
  refine hf B G H σ ρ _ h (WnP.imp (WnP.bind w) (Same.refl G) fun x ρ1 w1 v1 G1 H1 s1 h1 q1 => ?_)
  split at w1
  · next t ρ2 e =>
    obtain ⟨G2, s2, h2, r2⟩ := fix_ok h1 q1 e
    unfold opt at w1
    split at w1
    · next ts et =>
      obtain ⟨a, vs, rfl, S, r⟩ := seqOf_ok r2 et
      rcases S with S | S
      · exact ⟨a, vs, rfl, .inl ⟨h2.sub.seq S, w1 _ G2 H1 (s1.trans s2) h2 (wk_list S r)⟩⟩
      · exact ⟨a, vs, rfl, .inr ⟨seqT h2.sub S, w1 _ G2 H1 (s1.trans s2) h2 (wk_tup S r)⟩⟩
    · cases w1
  · cases w1
/-- .. by arguments -/
def iA (g : List T → Option (List T)) (a : M (List Vl)) : M (List T) := fun ρ => bindR (a ρ) fun xs ρ1 => match fixA ρ1 xs with
  | some (ts, ρ2) => opt (g ts) ρ2
  | none => .bot
theorem mi_args {ta : TA} {a : M (List Vl)} {g : List T → Option (List T)} {r : List V → Hp → (It → Hp → Prop) → Prop} (ha : MA K E ta a)
    (k : ∀ G H vs ts its (Q : It → Hp → Prop), Same G H → Reps K G vs ts → g ts = some its → (∀ J, Wk K G J its → Q J H) → r vs H Q) : MI K E (fun σ H Q => ta σ H fun vs H1 => r vs H1 Q) (iA g a) := fun B G H σ ρ Q h w => by
  refine ha B G H σ ρ _ h (WnP.imp (WnP.bind w) (Same.refl G) fun xs ρ1 w1 vs G1 H1 s1 h1 q1 => ?_)
  split at w1
  · next ts ρ2 e =>
    obtain ⟨G2, s2, h2, r2⟩ := fixA_ok h1 q1 e
    unfold opt at w1
    split at w1
    · next its et => exact k G2 H1 vs ts its Q h2.sub r2 et fun J wk => w1 J G2 H1 (s1.trans s2) h2 wk
    · cases w1
  · cases w1
def rg1 : List T → Option (List T)
  | [.int j] => if -(2 ^ 62) ≤ j ∧ j < 2 ^ 62 then some (rngT 0 1 j.toNat) else none
  | _ => none
theorem mi_rg1 {ta : TA} {a : M (List Vl)} (ha : MA K E ta a) : MI K E (iRng1 ta) (iA rg1 a) := by
  refine mi_args (r := fun vs H1 R => ∃ j : Int, vs = [.int j] ∧ -(2 ^ 62) ≤ j ∧ j < 2 ^ 62 ∧ R (Itr 0 j.toNat) H1) ha fun G H vs ts its Q s r e q => ?_
  unfold rg1 at e
  split at e
  · next j =>
    split at e
    · next hc =>
      cases e
      cases r with
      | cons a b =>
        cases b
        cases a
        exact ⟨j, rfl, hc.1, hc.2, q _ wk_rng⟩
    · cases e
  · cases e
def rg2 : List T → Option (List T)
  | [.int i, .int j] => if -(2 ^ 62) ≤ i ∧ i < 2 ^ 62 ∧ -(2 ^ 62) ≤ j ∧ j < 2 ^ 62 then some (rngT i 1 (j - i).toNat) else none
  | _ => none
def rg3 : List T → Option (List T)
  | [.int i, .int j, .int (-1)] => if -(2 ^ 62) ≤ i ∧ i < 2 ^ 62 ∧ -(2 ^ 62) ≤ j ∧ j < 2 ^ 62 then some (rngT i (-1) (i - j).toNat) else none
  | _ => none
def enA : List T → Option (List T)
  | [t] => match seqOf t with
    | some ts => some (enT ts)
    | none => none
  | _ => none
def ziA : List T → Option (List T)
  | [a, b] => match lstOf a, lstOf b with
    | some ts, some us => some (zipT ts us)
    | _, _ => none
  | _ => none
def forL (h : T → R → Option R) (b : S) : List T → S
  | [], ρ => .nx ρ
  | t :: ts, ρ => match h t ρ with
    | some ρ1 => match b ρ1 with
      | .nx ρ2 => forL h b ts ρ2
      | .ct ρ2 => forL h b ts ρ2
      | .bk ρ2 => .nx ρ2
      | .rt x ρ2 => .rt x ρ2
      | .ex C fs ρ2 => .ex C fs ρ2
      | .bot => .bot
    | none => .bot
def sFor (f : M (List T)) (h : T → R → Option R) (b : S) : S := fun ρ => after (f ρ) fun its ρ1 => forL h b its ρ1
theorem ms_for_at {wi : TI} {g : TG} {is : List Nat} {tb : TS} {f : M (List T)} {h : T → R → Option R} {b : S} {D : Ends} (hi : ∀ Q : It → Hp → Prop, WnP K E B G σ (fun its ρ' => ∀ J G' H', Same G G' → RS K B G' H' σ ρ' → Wk K G' J its → Q J H') (f ρ) → wi σ H Q) (hg : MG K g is h) (hb : MS K E tb b) (w : WnS K E B D (sFor f h b ρ)) : tFor wi g tb D σ H := by
  refine hi _ (to_s w fun its ρ1 w1 J G1 H1 s1 h1 wk => ?_)
  obtain ⟨Y, wlk, yok⟩ := wk
  have w2 := WnS.re h1 w1
  refine for_it wlk (fun i σ' H' => ∃ G' ρ', RS K (B.re G1 H1 σ ρ1) G' H' σ' ρ' ∧ WnS K E (B.re G1 H1 σ ρ1) D (forL h b (its.drop i) ρ')) ⟨G1, ρ1, h1.re, w2⟩ (fun i σ' H' _ ⟨G', ρ', h', _⟩ => h'.gs.trans h'.sub) ?_ ?_
  · rintro i x σ' H' H2 hlt ⟨G', ρ', h', w'⟩ y
    have ei : its[i]? = some its[i] := List.getElem?_eq_getElem hlt
    obtain ⟨G3, s3, h3, r3⟩ := YOk.rs h' h'.gs (yok i H' x H2 _ ei (h'.gs.trans h'.sub) y)
    rw [List.drop_eq_getElem_cons hlt] at w'
    unfold forL at w'
    split at w'
    · next ρ4 e4 =>
      refine hg _ G3 H2 σ' ρ' x _ ρ4 _ h3 r3 e4 fun σ4 h4 _ _ => ?_
      refine hb _ G3 H2 σ4 ρ4 _ h4 ?_
      cases e : b ρ4 with
      | nx ρ5 =>
        rw [e] at w'
        exact fun G6 H6 σ6 h6 => ⟨G6, ρ5, h6, w'⟩
      | ct ρ5 =>
        rw [e] at w'
        exact fun G6 H6 σ6 h6 => ⟨G6, ρ5, h6, w'⟩
      | bk ρ5 =>
        rw [e] at w'
        exact w'
      | rt z ρ5 =>
        rw [e] at w'
        exact w'
      | ex C fs ρ5 =>
        rw [e] at w'
        exact w'
      | bot =>
        rw [e] at w'
        exact w'
    · cases w'
  · rintro σ' H' ⟨G', ρ', h', w'⟩
    rw [List.drop_length] at w'
    exact w' G' H' σ' h'
theorem ms_for {wi : TI} {g : TG} {is : List Nat} {tb : TS} {f : M (List T)} {h : T → R → Option R} {b : S} (hi : MI K E wi f) (hg : MG K g is h) (hb : MS K E tb b) : MS K E (tFor wi g tb) (sFor f h b) := fun B G H σ ρ D h0 w => ms_for_at (fun Q' => hi B G H σ ρ Q' h0) hg hb w
theorem ms_never : MS K E tNever (fun _ => .bot) := fun B G H σ ρ D h w => w
end
end MX
set_option Elab.async false
set_option linter.all false
set_option maxRecDepth 100000
set_option maxHeartbeats 4000000
namespace MX
open PySem PySem.Spec PyProof.Rows L2 GX
section
variable [TabL] {K : PySem.W.Frag} {E : XS} {B : Bs} {G G1 H H1 : Hp} {σ : L2.St} {ρ : R}
/-- the tables stay where another thing is changed -/
theorem tabs_upd {l : List (Addr × Str)} {H : Hp} {a : Addr} {o : HO} (t : LamX.Tabs l H) (ha : ∃ u, H a = some u ∧ (∀ ps, u ≠ .tbl ps) ∧ ∀ d q, u ≠ LamX.CodeO d q) : LamX.Tabs l (upd H a o) := fun p hp => by
  obtain ⟨u, e, n1, n2⟩ := ha
  obtain ⟨ps, h1, h2, h3⟩ := t p hp
  refine ⟨ps, ?_, h2, fun pos cv hc => ?_⟩
  · rw [upd_ne fun z => by rw [z, e] at h1; exact n1 ps (Option.some.inj h1)]
    exact h1
  · obtain ⟨c, e1, e2⟩ := h3 pos cv hc
    refine ⟨c, e1, ?_⟩
    rw [upd_ne fun z => by rw [z, e] at e2; exact n2 _ _ (Option.some.inj e2)]
    exact e2
theorem repc_notab {K : PySem.W.Frag} {G : Hp} {o : HO} {c : OC} (r : RepC K G o c) : (∀ ps, o ≠ .tbl ps) ∧ ∀ d q, o ≠ LamX.CodeO d q := by
  cases r with
  | lst => exact ⟨(fun _ z => nomatch z), (fun d q z => nomatch (show HO.lst _ = HO.ext _ from z))⟩
  | ins => exact ⟨(fun _ z => nomatch z), (fun d q z => nomatch (show HO.ins _ _ _ = HO.ext _ from z))⟩
  | dct => exact ⟨(fun _ z => nomatch z), (fun d q z => nomatch (show HO.dK _ = HO.ext _ from z))⟩
theorem lst_notab {vs : List V} : (∀ ps, HO.lst vs ≠ .tbl ps) ∧ ∀ d q, HO.lst vs ≠ LamX.CodeO d q := ⟨(fun _ z => nomatch z), (fun d q z => nomatch (show HO.lst _ = HO.ext _ from z))⟩
theorem RS.write {a : Addr} {o : HO} (h : RS K B G H σ ρ) (hg : G a = none) (hn : ∀ i, ¬ OwnAt σ ρ i a) (hb : B.H a = none) (ha : ∃ u, H a = some u ∧ (∀ ps, u ≠ .tbl ps) ∧ ∀ d q, u ≠ LamX.CodeO d q) : RS K B G (upd H a o) σ ρ := by
  refine ⟨fun b u e => ?_, h.len, fun i x v e1 e2 => ?_, h.dis, fun b u e n y => ?_, fun b e => ?_, h.own, h.gs, h.gn, h.pin, tabs_upd h.tb ha, h.nt⟩
  · have nb : b ≠ a := fun z => by subst z; rw [hg] at e; cases e
    rw [upd_ne nb]
    exact h.sub b u e
  · have r := h.rel i x v e1 e2
    have own : ∀ c, (x = .ow c ∨ x = .io c) → OwnsC K G H v c → OwnsC K G (upd H a o) v c := fun c hx ⟨b, u, e3, h3, r3, n3⟩ => by
      refine ⟨b, u, e3, ?_, r3, n3⟩
      have nb : b ≠ a := fun z => by
        subst z
        refine hn i ⟨by rw [e2, e3], c, ?_⟩
        rcases hx with rfl | rfl
        · exact .inl e1
        · exact .inr e1
      rw [upd_ne nb]
      exact h3
    cases x with
    | no => trivial
    | fz t => exact r
    | ow c => exact own c (.inl rfl) r
    | io c => exact own c (.inr rfl) r
  · have nb : b ≠ a := fun z => by subst z; rw [hb] at e; cases e
    rw [upd_ne nb]
    exact h.keep b u e n y
  · by_cases c : b = a
    · subst c
      rw [upd_same] at e
      cases e
    · rw [upd_ne c] at e
      exact h.all b e
def SV.rep (c : OC) : SV → SV
  | .io _ => .io c
  | _ => .ow c
theorem RS.writeAt {i : Nat} {a : Addr} {o' : HO} {c c' : OC} {x : SV} (h : RS K B G H σ ρ) (hx : x = .ow c ∨ x = .io c) (e : ρ[i]? = some x) (s : σ[i]? = some (some (.ref a))) (r' : RepC K G o' c') : RS K B G (upd H a o') σ (ρ.set i (x.rep c')) := by
  have eo : ρ[i]? = some (.ow c) ∨ ρ[i]? = some (.io c) := by
    rcases hx with rfl | rfl
    · exact .inl e
    · exact .inr e
  obtain ⟨a', o1, ea, h1, r, n, oi, no⟩ := own_of h eo s
  cases ea
  have li : i < ρ.length := (List.getElem?_eq_some_iff.mp e).1
  have at' : (ρ.set i (x.rep c'))[i]? = some (x.rep c') := by rw [List.getElem?_set, if_pos rfl, if_pos li]
  have out : ∀ j b, OwnAt σ (ρ.set i (x.rep c')) j b → OwnAt σ ρ j b := fun j b ⟨e1, c1, q⟩ => by
    by_cases cj : j = i
    · subst cj
      exact ⟨e1, c, eo⟩
    · rw [set_ne' cj] at q
      exact ⟨e1, c1, q⟩
  refine ⟨fun b u e2 => ?_, by rw [List.length_set]; exact h.len, fun j y u e1 e2 => ?_, fun j k b nk q1 q2 => h.dis j k b nk (out j b q1) (out k b q2), fun b u e2 nb y => ?_, fun b e2 => ?_, fun j b q => h.own j b (out j b q), h.gs, h.gn, fun j b m => ?_, tabs_upd h.tb ⟨o1, h1, repc_notab r⟩, h.nt⟩
  · have nb : b ≠ a := fun z => by subst z; rw [n] at e2; cases e2
    rw [upd_ne nb]
    exact h.sub b u e2
  · by_cases cj : j = i
    · subst cj
      rw [at'] at e1
      cases e1
      have eu : u = some (.ref a) := Option.some.inj (e2.symm.trans s)
      rcases hx with rfl | rfl
      · exact ⟨a, o', eu, upd_same, r', n⟩
      · exact ⟨a, o', eu, upd_same, r', n⟩
    · rw [set_ne' cj] at e1
      have q := h.rel j y u e1 e2
      have own : ∀ d, (y = .ow d ∨ y = .io d) → OwnsC K G H u d → OwnsC K G (upd H a o') u d := fun d hy ⟨b, w, e3, h3, r3, n3⟩ => by
        refine ⟨b, w, e3, ?_, r3, n3⟩
        have nb : b ≠ a := fun z => by
          subst z
          refine no j cj ⟨by rw [e2, e3], d, ?_⟩
          rcases hy with rfl | rfl
          · exact .inl e1
          · exact .inr e1
        rw [upd_ne nb]
        exact h3
      cases y with
      | no => trivial
      | fz t => exact q
      | ow d => exact own d (.inl rfl) q
      | io d => exact own d (.inr rfl) q
  · have nb2 : b ≠ a := fun z => by
      subst z
      rcases h.own i b oi with z | z
      · exact nb z
      · rw [e2] at z
        cases z
    rw [upd_ne nb2]
    exact h.keep b u e2 nb y
  · by_cases cb : b = a
    · subst cb
      rw [upd_same] at e2
      cases e2
    · rw [upd_ne cb] at e2
      exact h.all b e2
  · obtain ⟨p1, d, p2⟩ := h.pin j b m
    refine ⟨p1, ?_⟩
    by_cases cj : j = i
    · subst cj
      rw [e] at p2
      cases p2
      exact ⟨c', at'⟩
    · exact ⟨d, by rw [set_ne' cj]; exact p2⟩
def lstAt (ρ : R) (i : Nat) : Option (SV × List T) := match ρ[i]? with
  | some (.ow (.lst ts)) => some (.ow (.lst ts), ts)
  | some (.io (.lst ts)) => some (.io (.lst ts), ts)
  | _ => none
theorem lstAt_ok {i : Nat} {x : SV} {ts : List T} {v : V} (h : RS K B G H σ ρ) (e : lstAt ρ i = some (x, ts)) (s : σ[i]? = some (some v)) :
    (x = .ow (.lst ts) ∨ x = .io (.lst ts)) ∧ ρ[i]? = some x ∧ ∃ a vs, v = .ref a ∧ H a = some (.lst vs) ∧ Reps K G vs ts ∧ G a = none := by
  unfold lstAt at e
  split at e
  · next us hu =>
    cases e
    obtain ⟨a, o, rfl, h1, r, n, _⟩ := own_of h (.inl hu) s
    cases r with
    | lst r => exact ⟨.inl rfl, hu, a, _, rfl, h1, r, n⟩
  · next us hu =>
    cases e
    obtain ⟨a, o, rfl, h1, r, n, _⟩ := own_of h (.inr hu) s
    cases r with
    | lst r => exact ⟨.inr rfl, hu, a, _, rfl, h1, r, n⟩
  · cases e
theorem slot_of {i : Nat} {x : SV} (h : RS K B G H σ ρ) (e : ρ[i]? = some x) (hx : x.plain = false) : ∃ v, σ[i]? = some (some v) := by
  have l := (List.getElem?_eq_some_iff.mp e).1
  rw [← h.len] at l
  have r := h.rel i x _ e (List.getElem?_eq_getElem l)
  cases x with
  | no => cases hx
  | fz t => cases hx
  | ow c => obtain ⟨a, o, ea, _⟩ := r; exact ⟨_, (List.getElem?_eq_getElem l).trans (congrArg some ea)⟩
  | io c => obtain ⟨a, o, ea, _⟩ := r; exact ⟨_, (List.getElem?_eq_getElem l).trans (congrArg some ea)⟩
theorem lstAt_slot {i : Nat} {x : SV} {ts : List T} (h : RS K B G H σ ρ) (e : lstAt ρ i = some (x, ts)) : ∃ v, σ[i]? = some (some v) := by
  unfold lstAt at e
  split at e
  · next us hu => exact slot_of h hu rfl
  · next us hu => exact slot_of h hu rfl
  · cases e
def appAt (i : Nat) (t : T) : M Vl := fun ρ => match lstAt ρ i with
  | some (x, ts) => if ts.length < 16777216 then .ok (.val .non) (ρ.set i (x.rep (.lst (ts ++ [t])))) else .bot
  | none => .bot
def eApp (i : Nat) (f : M Vl) : M Vl := fun ρ => match lstAt ρ i with
  | some _ => bindR (f ρ) fun y ρ1 => match fixV ρ1 y with
    | some (t, ρ2) => appAt i t ρ2
    | none => .bot
  | none => .bot
theorem me_app {i : Nat} {te : TE} {f : M Vl} (hf : ME K E te f) : ME K E (tBM K "list" rAppend (tVar i) (tCons te tNil)) (eApp i f) := fun B G H σ ρ Q h w => by
  unfold eApp at w
  split at w
  · next p e0 =>
    obtain ⟨x0, ts0⟩ := p
    obtain ⟨v, ev⟩ := lstAt_slot h e0
    obtain ⟨_, _, a, vs0, rfl, ha, _⟩ := lstAt_ok h e0 ev
    refine ⟨_, ev, .inl ⟨rfl, vs0, SqL.of ha⟩, ?_⟩
    refine hf B G H σ ρ _ h (WnP.imp (WnP.bind w) (Same.refl G) fun y ρ1 w1 v1 G1 H1 s1 h1 q1 => ?_)
    split at w1
    · next t ρ2 e2 =>
      obtain ⟨G2, s2, h2, r2⟩ := fix_ok h1 q1 e2
      unfold appAt at w1
      split at w1
      · next x ts e3 =>
        split at w1
        · next hl =>
          obtain ⟨hx, ex, a', vs, ea, ha2, r3, n3⟩ := lstAt_ok h2 e3 ev
          cases ea
          have hz := sizeLine_eq
          refine ⟨a, vs, v1, rfl, rfl, ha2, by rw [r3.len]; omega, ?_⟩
          exact w1 .non G2 _ (s1.trans s2) (h2.writeAt hx ex ev (.lst (r3.snoc r2))) .non
        · cases w1
      · cases w1
    · cases w1
  · cases w
def sPutIx (i : Nat) (f g : M Vl) : S := fun ρ => after (f ρ) fun x ρ1 => match fixV ρ1 x with
  | some (t, ρ2) => match lstAt ρ2 i with
    | some _ => after (g ρ2) fun y ρ3 => match rdV ρ3 y with
      | some (.int k) => match lstAt ρ3 i with
        | some (z, ts) => match ixN ts.length k with
          | some j => .nx (ρ3.set i (z.rep (.lst (ts.set j t))))
          | none => .bot
        | none => .bot
      | _ => .bot
    | none => .bot
  | none => .bot
theorem ms_putIx {i : Nat} {te ti : TE} {f g : M Vl} (hf : ME K E te f) (hg : ME K E ti g) : MS K E (tAsg te (gSub (tVar i) ti rSetL)) (sPutIx i f g) := fun B G H σ ρ D h w => by
  refine hf B G H σ ρ _ h (to_s w fun x ρ1 w1 v1 G1 H1 s1 h1 q1 => ?_)
  split at w1
  · next t ρ2 e2 =>
    obtain ⟨G2, s2, h2, r2⟩ := fix_ok h1 q1 e2
    split at w1
    · next p e3 =>
      obtain ⟨x3, ts3⟩ := p
      obtain ⟨v, ev⟩ := lstAt_slot h2 e3
      refine ⟨v, ev, ?_⟩
      refine hg B G2 H1 σ ρ2 _ h2 (to_s w1 fun y ρ3 w3 v3 G3 H3 s3 h3 q3 => ?_)
      split at w3
      · next k ek =>
        obtain rfl := (rd_ok h3 q3 ek).int
        split at w3
        · next z ts ez =>
          split at w3
          · next j ej =>
            obtain ⟨hx, ex, a, vs, rfl, ha, r4, n4⟩ := lstAt_ok h3 ez ev
            refine ⟨a, vs, k, j, rfl, rfl, ha, by rw [r4.len]; exact ej, ?_⟩
            exact w3 G3 _ σ (h3.writeAt hx ex ev (.lst (r4.set j (r2.mono s3))))
          · cases w3
        · cases w3
      · cases w3
    · cases w1
  · cases w1
theorem own_swap {σ' : L2.St} (hv : ∀ j : Nat, ρ[j]? ≠ some .no → σ'[j]? = σ[j]?) {j : Nat} {a : Addr} (q : OwnAt σ' ρ j a) : OwnAt σ ρ j a := by
  obtain ⟨e, c, q⟩ := q
  have hne : ρ[j]? ≠ some .no := by
    rcases q with q | q <;> (rw [q]; simp)
  exact ⟨(hv j hne).symm.trans e, c, q⟩
theorem RS.swap {σ' : L2.St} (h : RS K B G H σ ρ) (hl : σ'.length = σ.length) (hv : ∀ j : Nat, ρ[j]? ≠ some .no → σ'[j]? = σ[j]?) : RS K B G H σ' ρ := by
  refine ⟨h.sub, hl.trans h.len, fun i x v e1 e2 => ?_, fun j k b nk q1 q2 => h.dis j k b nk (own_swap hv q1) (own_swap hv q2), h.keep, h.all, fun j b q => h.own j b (own_swap hv q), h.gs, h.gn, fun j b m => ?_, h.tb, h.nt⟩
  · by_cases c : x = .no
    · subst c
      trivial
    · have hne : ρ[i]? ≠ some .no := fun z => c (Option.some.inj (e1.symm.trans z))
      rw [hv i hne] at e2
      exact h.rel i x v e1 e2
  · obtain ⟨p1, c, p2⟩ := h.pin j b m
    exact ⟨(hv j (by rw [p2]; simp)).trans p1, c, p2⟩
theorem wipe_ne {σ : L2.St} {j : Nat} : ∀ {vs : List Nat}, j ∉ vs → (wipe σ vs)[j]? = σ[j]?
  | [], _ => rfl
  | v :: vs, h => by
    have h2 : j ≠ v ∧ j ∉ vs := by simpa using h
    show ((wipe σ vs).set v none)[j]? = _
    rw [set_ne' h2.1]
    exact wipe_ne h2.2
theorem wipe_in {σ : L2.St} {j : Nat} {x : Option V} : ∀ {vs : List Nat}, j ∈ vs → (wipe σ vs)[j]? = some x → x = none
  | v :: vs, h, e => by
    have e : ((wipe σ vs).set v none)[j]? = some x := e
    by_cases c : j = v
    · subst c
      exact set_eq' e
    · rw [set_ne' c] at e
      exact wipe_in (by simpa [c] using h) e
def noAt (ρ : R) (vs : List Nat) : Bool := vs.all fun j => match ρ[j]? with
  | some .no => true
  | none => true
  | _ => false
theorem noAt_ne {vs : List Nat} {j : Nat} (h : noAt ρ vs = true) (hj : j < ρ.length) (n : ρ[j]? ≠ some .no) : j ∉ vs := fun m => by
  have q := List.all_eq_true.mp h j m
  rw [List.getElem?_eq_getElem hj] at q n
  cases e : ρ[j] with
  | no => exact n (by rw [e])
  | _ => rw [e] at q; cases q
def wipeR : List Nat → R → Option R
  | [], ρ => some ρ
  | v :: vs, ρ => match wipeR vs ρ with
    | some ρ1 => match ρ1[v]? with
      | some (.io _) => none
      | _ => some (ρ1.set v .no)
    | none => none
theorem wipeR_ok : ∀ {vs : List Nat} {ρ' : R}, RS K B G H σ ρ → wipeR vs ρ = some ρ' → RS K B G H (wipe σ vs) ρ'
  | [], ρ', h, e => by cases e; exact h
  | v :: vs, ρ', h, e => by
    unfold wipeR at e
    split at e
    · next ρ1 e1 =>
      have h1 := wipeR_ok h e1
      split at e
      · cases e
      · next hn =>
        cases e
        refine h1.put (fun y ey => ?_) rfl trivial
        cases y with
        | io c => exact absurd ey (hn c)
        | _ => rfl
    · cases e
theorem wipeR_no : ∀ {vs : List Nat} {ρ ρ' : R}, wipeR vs ρ = some ρ' → noAt ρ' vs = true
  | [], _, _, _ => rfl
  | v :: vs, ρ, ρ', e => by
    unfold wipeR at e
    split at e
    · next ρ1 e1 =>
      have h1 := wipeR_no e1
      split at e
      · cases e
      · cases e
        refine List.all_eq_true.mpr fun j hj => ?_
        by_cases c : j = v
        · subst c
          rw [List.getElem?_set, if_pos rfl]
          by_cases hl : j < ρ1.length
          · rw [if_pos hl]
          · rw [if_neg hl]
        · rw [set_ne' c]
          exact List.all_eq_true.mp h1 j (by simpa [c] using hj)
    · cases e
def lcL (h : T → R → Option R) (c : M Bool) (e : M Vl) (vs : List Nat) : List T → List T → R → Res Vl
  | [], acc, ρ => .ok (.own (.lst acc)) ρ
  | t :: ts, acc, ρ => match h t ρ with
    | some ρ1 => match c ρ1 with
      | .ok k ρ2 => if k = true then (match e ρ2 with
        | .ok x ρ3 => match fixV ρ3 x with
          | some (u, ρ4) => match wipeR vs ρ4 with
            | some ρ5 => if acc.length < 16777216 then lcL h c e vs ts (acc ++ [u]) ρ5 else .bot
            | none => .bot
          | none => .bot
        | _ => .bot) else (match wipeR vs ρ2 with
          | some ρ5 => lcL h c e vs ts acc ρ5
          | none => .bot)
      | _ => .bot
    | none => .bot
def eLc (its : M (List T)) (h : T → R → Option R) (c : M Bool) (e : M Vl) (vs : List Nat) : M Vl := fun ρ => bindR (its ρ) fun ts ρ1 => if noAt ρ1 vs = true then lcL h c e vs ts [] ρ1 else .bot
abbrev EF : XS := fun _ _ _ _ => False
/-- what a comprehension's rest wants -/
def WnL (K : PySem.W.Frag) (B : Bs) (vs : List Nat) (σ : L2.St) (Q : VK) : Res Vl → Prop
  | .ok x ρ => ∀ v G H, RS K B G H (wipe σ vs) ρ → noAt ρ vs = true → VR K B G H (wipe σ vs) ρ v x → Q v H
  | .ex _ _ _ => True
  | .bot => False
theorem me_lc_at {wi : TI} {g : TG} {tt : TT} {te : TE} {vs : List Nat} {its : M (List T)} {h : T → R → Option R} {c : M Bool} {e : M Vl} {Q : VK} (hi : ∀ Q : It → Hp → Prop, WnP K E B G σ (fun its ρ' => ∀ J G' H', Same G G' → RS K B G' H' σ ρ' → Wk K G' J its → Q J H') (its ρ) → wi σ H Q) (hg : MG K g vs h) (ht : MT K EF tt c) (he : ME K EF te e)
    (w : Wn K E B G σ Q (eLc its h c e vs ρ)) : tLc wi g tt te vs σ H Q := by
  refine hi _ (WnP.imp (WnP.bind w) (Same.refl G) fun ts ρ1 w1 J G1 H1 s1 h1 wk D hD => ?_)
  split at w1
  · next hno =>
    obtain ⟨Y, wlk, yok⟩ := wk
    have back : ∀ {ρ' : R}, ρ'.length = σ.length → noAt ρ' vs = true → ∀ j : Nat, ρ'[j]? ≠ some .no → σ[j]? = (wipe σ vs)[j]? := fun {ρ'} hl hno j n => by
      by_cases hj : j < ρ'.length
      · exact (wipe_ne (noAt_ne hno hj n)).symm
      · rw [List.getElem?_eq_none (by omega), List.getElem?_eq_none (by rw [wipe_length]; omega)]
    have hwl : (wipe σ vs).length = σ.length := wipe_length σ vs
    have h2 : RS K (B.re G1 H1 σ ρ1) G1 H1 (wipe σ vs) ρ1 := h1.re.swap hwl fun j n => (back h1.len.symm hno j n).symm
    have w2 : WnL K (B.re G1 H1 σ ρ1) vs σ Q (lcL h c e vs ts [] ρ1) := by
      generalize lcL h c e vs ts [] ρ1 = r at w1
      cases r with
      | ok x ρ' =>
        intro v G' H' h' no' q'
        have hl' : ρ'.length = σ.length := h'.len.symm.trans hwl
        have h3 := h'.swap hwl.symm (back hl' no')
        refine w1 v G' H' (s1.trans h'.gs) (h1.un h3) (VR.un h1 ?_)
        cases x with
        | val t => exact q'
        | sl i => exact (wipe_some (show (wipe σ vs)[i]? = some (some v) from q')).1
        | own c =>
          obtain ⟨a, o, e1, e2, e3, e4, e5, e6⟩ := q'
          exact ⟨a, o, e1, e2, e3, e4, fun i z => e5 i (own_swap (back hl' no') z), e6⟩
      | ex C fs ρ' => trivial
      | bot => exact w1
    refine lc_it wlk (fun i H' => ∃ G' ρ' ws us, RS K (B.re G1 H1 σ ρ1) G' H' (wipe σ vs) ρ' ∧ noAt ρ' vs = true ∧ H' D = some (.lst ws) ∧ G' D = none ∧ (∀ j, ¬ OwnAt (wipe σ vs) ρ' j D) ∧ Reps K G' ws us ∧ WnL K (B.re G1 H1 σ ρ1) vs σ Q (lcL h c e vs (ts.drop i) us ρ')) ?_ (fun i H' _ ⟨G', ρ', _, _, h', _⟩ => h'.gs.trans h'.sub) ?_ ?_
    · exact ⟨G1, ρ1, [], [], h2.made hD, hno, upd_same, h1.sub.free hD, fun j z => h2.notOwn hD j z, .nil, w2⟩
    · rintro i x H' H2' hlt ⟨G', ρ', ws, us, h', no', eD, gD, nD, rD, w'⟩ y
      have ei : ts[i]? = some ts[i] := List.getElem?_eq_getElem hlt
      have hb := h'.re
      have hs' : Same G1 G' := h'.gs
      obtain ⟨G3, s3, h3, r3⟩ := YOk.rs hb hs' (yok i H' x H2' _ ei (hs'.trans h'.sub) y)
      rw [List.drop_eq_getElem_cons hlt] at w'
      unfold lcL at w'
      have frame : ∀ {G9 H9 : Hp} {σ9 : L2.St} {ρ9 : R}, RS K ((B.re G1 H1 σ ρ1).re G' H' (wipe σ vs) ρ') G9 H9 σ9 ρ9 → H9 D = some (.lst ws) ∧ G9 D = none ∧ ∀ j, ¬ OwnAt σ9 ρ9 j D := fun {G9 H9 σ9 ρ9} h9 => by
        have nO : ¬ ∃ i, OwnAt (wipe σ vs) ρ' i D := fun ⟨i, z⟩ => nD i z
        refine ⟨h9.keep D _ eD nO (fun _ z => by cases z), ?_, fun j z => ?_⟩
        · cases eG : G9 D with
          | none => rfl
          | some o =>
            rcases h9.gn D o eG with z | z | z | ⟨xs, z⟩
            · have z : G' D = some o := z
              rw [gD] at z
              cases z
            · exact absurd z nO
            · have z : H' D = none := z
              rw [eD] at z
              cases z
            · subst z
              have y := h9.sub D _ eG
              rw [h9.keep D _ eD nO (fun _ z => by cases z)] at y
              cases y
        · rcases h9.own j D z with z | z
          · exact nO z
          · have z : H' D = none := z
            rw [eD] at z
            cases z
      split at w'
      · next ρ4 e4 =>
        refine hg _ G3 H2' (wipe σ vs) ρ' x _ ρ4 _ h3 r3 e4 fun σ4 h4 k4 l4 => ⟨?_, ?_⟩
        · refine List.ext_getElem? fun j => ?_
          by_cases hj : j ∈ vs
          · have l1 : (wipe σ4 vs).length = (wipe σ vs).length := by rw [wipe_length, l4]
            by_cases hjl : j < (wipe σ4 vs).length
            · have e1 := List.getElem?_eq_getElem hjl
              have e2 : (wipe σ vs)[j]? = some ((wipe σ vs)[j]'(by omega)) := List.getElem?_eq_getElem _
              rw [e1, e2, wipe_in hj e1, wipe_in hj e2]
            · rw [List.getElem?_eq_none (by omega), List.getElem?_eq_none (by omega)]
          · rw [wipe_ne hj, k4 j hj]
        · have hw4 : wipe σ4 vs = wipe σ vs := by
            refine List.ext_getElem? fun j => ?_
            by_cases hj : j ∈ vs
            · have l1 : (wipe σ4 vs).length = (wipe σ vs).length := by rw [wipe_length, l4]
              by_cases hjl : j < (wipe σ4 vs).length
              · have e1 := List.getElem?_eq_getElem hjl
                have e2 : (wipe σ vs)[j]? = some ((wipe σ vs)[j]'(by omega)) := List.getElem?_eq_getElem _
                rw [e1, e2, wipe_in hj e1, wipe_in hj e2]
              · rw [List.getElem?_eq_none (by omega), List.getElem?_eq_none (by omega)]
            · rw [wipe_ne hj, k4 j hj]
          cases ec : c ρ4 with
          | ok k ρ5 =>
            rw [ec] at w'
            refine ht _ G3 H2' σ4 ρ4 _ h4 ?_
            rw [ec]
            intro G5 H5 s5 h5
            cases k with
            | true =>
              have w' : WnL K (B.re G1 H1 σ ρ1) vs σ Q (match e ρ5 with
                | .ok x ρ3 => match fixV ρ3 x with
                  | some (u, ρ4) => match wipeR vs ρ4 with
                    | some ρ5 => if us.length < 16777216 then lcL h c e vs (ts.drop (i + 1)) (us ++ [u]) ρ5 else .bot
                    | none => .bot
                  | none => .bot
                | _ => .bot) := w'
              show te σ4 H5 _
              cases ee : e ρ5 with
              | ok z ρ6 =>
                rw [ee] at w'
                refine he _ G5 H5 σ4 ρ5 _ h5 ?_
                rw [ee]
                intro v6 G6 H6 s6 h6 q6
                dsimp only at w'
                split at w'
                · next u ρ7 e7 =>
                  obtain ⟨G7, s7, h7, r7⟩ := fix_ok h6 q6 e7
                  split at w'
                  · next ρ8 e8 =>
                    split at w'
                    · next hl =>
                      obtain ⟨fD, gD7, nD7⟩ := frame h7
                      have hz := sizeLine_eq
                      refine ⟨ws, fD, by rw [rD.len]; omega, ?_⟩
                      have h8 := wipeR_ok h7 e8
                      rw [hw4] at h8
                      have h9 := h'.un h8
                      obtain ⟨_, _, nD8⟩ := frame h8
                      have sG : Same G' G7 := h7.gs
                      exact ⟨G7, ρ8, ws ++ [v6], us ++ [u], h9.write gD7 nD8 hD ⟨_, fD, lst_notab⟩, wipeR_no e8, upd_same, gD7, nD8, (rD.mono sG).snoc r7, w'⟩
                    · cases w'
                  · cases w'
                · cases w'
              | ex C fs ρ6 => rw [ee] at w'; cases w'
              | bot => rw [ee] at w'; cases w'
            | false =>
              have w' : WnL K (B.re G1 H1 σ ρ1) vs σ Q (match wipeR vs ρ5 with
                | some ρ5 => lcL h c e vs (ts.drop (i + 1)) us ρ5
                | none => .bot) := w'
              split at w'
              · next ρ8 e8 =>
                obtain ⟨fD, gD7, nD7⟩ := frame h5
                have h8 := wipeR_ok h5 e8
                rw [hw4] at h8
                have h9 := h'.un h8
                obtain ⟨_, _, nD8⟩ := frame h8
                have sG : Same G' G5 := h5.gs
                exact ⟨G5, ρ8, ws, us, h9, wipeR_no e8, fD, gD7, nD8, rD.mono sG, w'⟩
              · cases w'
          | ex C fs ρ5 => rw [ec] at w'; cases w'
          | bot => rw [ec] at w'; cases w'
      · cases w'
    · rintro H' ⟨G', ρ', ws, us, h', no', eD, gD, nD, rD, w'⟩
      rw [List.drop_length] at w'
      exact w' (.ref D) G' H' h' no' ⟨D, _, rfl, eD, .lst rD, gD, nD, .inr hD⟩
  · cases w1
theorem me_lc {wi : TI} {g : TG} {tt : TT} {te : TE} {vs : List Nat} {its : M (List T)} {h : T → R → Option R} {c : M Bool} {e : M Vl} (hi : MI K E wi its) (hg : MG K g vs h) (ht : MT K EF tt c) (he : ME K EF te e) :
    ME K E (tLc wi g tt te vs) (eLc its h c e vs) := fun B G H σ ρ Q h0 w => me_lc_at (fun Q' => hi B G H σ ρ Q' h0) hg ht he w
end
end MX
set_option Elab.async false
set_option linter.all false
set_option maxRecDepth 100000
set_option maxHeartbeats 4000000
namespace MX
open PySem PySem.Spec PyProof.Rows L2 GX
inductive FR where
  | ok (x : Vl) (c : Option OC) | ex (C : Str) (fs : List (Str × T)) (c : Option OC) | bot
structure FP [TabL] (oa : Option Addr) (G H G' H' : Hp) : Prop where
  gs : Same G G'
  sub : Same G' H'
  keep : ∀ a o, H a = some o → oa ≠ some a → (∀ ps, o ≠ .tbl ps) → H' a = some o
  all : ∀ a, H' a = none → H a = none
  gn : ∀ a o, G' a = some o → G a = some o ∨ H a = none ∨ ∃ xs, o = .tup xs
  tb : LamX.Tabs TabL.tabs H'
  nt : NtF G'
def FV (K : PySem.W.Frag) (H G' H' : Hp) (v : V) : Vl → Prop
  | .val t => Rep K G' v t
  | .own c => ∃ a o, v = .ref a ∧ H' a = some o ∧ RepC K G' o c ∧ G' a = none ∧ H a = none
  | .sl _ => False
def IoP (K : PySem.W.Frag) (oa : Option Addr) (c : Option OC) (G' H' : Hp) : Prop := ∀ a, oa = some a → ∃ c', c = some c' ∧ OwnsC K G' H' (some (.ref a)) c'
def FW [TabL] (K : PySem.W.Frag) (oa : Option Addr) (G H : Hp) (Q : VK) (E : XK) : FR → Prop
  | .ok x c => ∀ v G' H', FP oa G H G' H' → IoP K oa c G' H' → FV K H G' H' v x → Q v H'
  | .ex C fs c => ∀ d fv G' H', FP oa G H G' H' → IoP K oa c G' H' → H d = none → H' d = some (.xd fv) → RepF K G' fv fs → E (.ref (nm K C)) (some d) H'
  | .bot => False
def spM [TabL] (K : PySem.W.Frag) (d : List T → FR) : Sp := fun vs H Q E => ∃ G ts, Same G H ∧ (LamX.Tabs TabL.tabs H ∧ NtF G) ∧ Reps K G vs ts ∧ FW K none G H Q E (d ts)
/-- .. whose first argument is changed -/
def spI [TabL] (K : PySem.W.Frag) (d : OC → List T → FR) : Sp := fun vs H Q E => ∃ G a c us ts, vs = .ref a :: us ∧ Same G H ∧ (LamX.Tabs TabL.tabs H ∧ NtF G) ∧ OwnsC K G H (some (.ref a)) c ∧ Reps K G us ts ∧ FW K (some a) G H Q E (d c ts)
section
variable [TabL] {K : PySem.W.Frag} {E : XS} {B : Bs} {G G1 H H1 : Hp} {σ : L2.St} {ρ : R}
theorem RS.callF {oa : Option Addr} (h : RS K B G H σ ρ) (p : FP oa G H G1 H1) (no : ∀ a, oa = some a → B.O a ∨ B.H a = none) {ρ' : R} (hl : ρ'.length = ρ.length)
    (hs : ∀ i : Nat, ρ'[i]? = ρ[i]? ∧ (∀ a, oa = some a → ¬ OwnAt σ ρ i a) ∨ ∃ a x c c', oa = some a ∧ σ[i]? = some (some (.ref a)) ∧ ρ[i]? = some x ∧ (x = .ow c ∨ x = .io c) ∧ ρ'[i]? = some (x.rep c') ∧ OwnsC K G1 H1 (some (.ref a)) c') : RS K B G1 H1 σ ρ' := by
  have out : ∀ j b, OwnAt σ ρ' j b → OwnAt σ ρ j b := fun j b ⟨e1, c1, q⟩ => by
    rcases hs j with ⟨z, _⟩ | ⟨a, x, c, c', _, z1, z2, z3, z4, _⟩
    · rw [z] at q
      exact ⟨e1, c1, q⟩
    · refine ⟨e1, c, ?_⟩
      rw [z2]
      rcases z3 with rfl | rfl
      · exact .inl rfl
      · exact .inr rfl
  refine ⟨p.sub, by rw [hl]; exact h.len, fun i x v e1 e2 => ?_, fun j k b nk q1 q2 => h.dis j k b nk (out j b q1) (out k b q2), fun b u e n y => p.keep b u (h.keep b u e n y) (fun z => ?_) y, fun b e => h.all b (p.all b e), fun j b q => h.own j b (out j b q), h.gs.trans p.gs, fun b u e => ?_, fun j b m => ?_, p.tb, p.nt⟩
  · rcases hs i with ⟨z, nz⟩ | ⟨a, y, c, c', ha, z1, z2, z3, z4, z5⟩
    · rw [z] at e1
      have r := h.rel i x v e1 e2
      have own : ∀ d, (x = .ow d ∨ x = .io d) → OwnsC K G H v d → OwnsC K G1 H1 v d := fun d hx ⟨b, u, e3, h3, r3, n3⟩ => by
        have oi : OwnAt σ ρ i b := by
          refine ⟨by rw [e2, e3], d, ?_⟩
          rcases hx with rfl | rfl
          · exact .inl e1
          · exact .inr e1
        refine ⟨b, u, e3, p.keep b u h3 (fun w => nz b w oi) (repc_notab r3).1, r3.mono p.gs, ?_⟩
        cases eG : G1 b with
        | none => rfl
        | some o =>
          rcases p.gn b o eG with w | w | ⟨xs, w⟩
          · rw [n3] at w
            cases w
          · rw [h3] at w
            cases w
          · subst w
            have y := p.sub b _ eG
            rw [p.keep b u h3 (fun w => nz b w oi) (repc_notab r3).1] at y
            cases y
            cases r3
      cases x with
      | no => trivial
      | fz t =>
        obtain ⟨u, eu, r⟩ := r
        exact ⟨u, eu, r.mono p.gs⟩
      | ow d => exact own d (.inl rfl) r
      | io d => exact own d (.inr rfl) r
    · rw [z4] at e1
      rw [z1] at e2
      cases e1
      cases e2
      rcases z3 with rfl | rfl
      · exact z5
      · exact z5
  · rcases no b z with w | w
    · exact n w
    · rw [e] at w
      cases w
  · rcases p.gn b u e with z | z | z
    · exact h.gn b u z
    · exact .inr (.inr (.inl (h.all b z)))
    · exact .inr (.inr (.inr z))
  · obtain ⟨p1, c, p2⟩ := h.pin j b m
    refine ⟨p1, ?_⟩
    rcases hs j with ⟨z, _⟩ | ⟨a, x, c0, c', ha, z1, z2, z3, z4, z5⟩
    · exact ⟨c, z.trans p2⟩
    · rw [p2] at z2
      cases z2
      exact ⟨c', z4⟩
theorem RS.call {oa : Option Addr} (h : RS K B G H σ ρ) (p : FP oa G H G1 H1) (no : ∀ a, oa = some a → (∃ i, OwnAt σ ρ i a)) {ρ' : R} (hl : ρ'.length = ρ.length)
    (hs : ∀ i : Nat, ρ'[i]? = ρ[i]? ∧ (∀ a, oa = some a → ¬ OwnAt σ ρ i a) ∨ ∃ a x c c', oa = some a ∧ σ[i]? = some (some (.ref a)) ∧ ρ[i]? = some x ∧ (x = .ow c ∨ x = .io c) ∧ ρ'[i]? = some (x.rep c') ∧ OwnsC K G1 H1 (some (.ref a)) c') : RS K B G1 H1 σ ρ' :=
  h.callF p (fun a z => let ⟨i, q⟩ := no a z; h.own i a q) hl hs
theorem VR.ofF {v : V} {x : Vl} {oa : Option Addr} {ρ' : R} (h : RS K B G H σ ρ) (q : FV K H G1 H1 v x) (hn : ∀ a i, H a = none → ¬ OwnAt σ ρ' i a) : VR K B G1 H1 σ ρ' v x := by
  cases x with
  | val t => exact q
  | own c =>
    obtain ⟨a, o, e, h1, r, n, f⟩ := q
    exact ⟨a, o, e, h1, r, n, fun i => hn a i f, .inr (h.all a f)⟩
  | sl i => exact q.elim
def okV (x : Vl) (ρ : R) : Res Vl := match x with
  | .sl _ => .bot
  | x => .ok x ρ
def eCall (d : List T → FR) (as : M (List Vl)) : M Vl := fun ρ => bindR (as ρ) fun xs ρ1 => match fixA ρ1 xs with
  | some (ts, ρ2) => match d ts with
    | .ok x _ => okV x ρ2
    | .ex C fs _ => .ex C fs ρ2
    | .bot => .bot
  | none => .bot
theorem me_call {E' : XK} {ta : TA} {d : List T → FR} {as : M (List Vl)} (hE : ∀ σ C d H, E σ C d H → E' C d H) (ha : MA K E ta as) : ME K E (tCall (spM K d) [] E' ta) (eCall d as) := fun B G H σ ρ Q h w => by
  refine ha B G H σ ρ _ h (WnP.imp (WnP.bind w) (Same.refl G) fun xs ρ1 w1 vs G1 H1 s1 h1 q1 => ?_)
  split at w1
  · next ts ρ2 e2 =>
    obtain ⟨G2, s2, h2, r2⟩ := fixA_ok h1 q1 e2
    rw [List.append_nil]
    refine ⟨G2, ts, h2.sub, ⟨h2.tb, h2.nt⟩, r2, ?_⟩
    have step : ∀ {G' H' : Hp}, FP none G2 H1 G' H' → RS K B G' H' σ ρ2 := fun {G' H'} p => h2.call p (fun a z => by cases z) rfl fun i => .inl ⟨rfl, fun a z => by cases z⟩
    cases ed : d ts with
    | ok x c =>
      rw [ed] at w1
      intro v G' H' p _ q
      have h3 := step p
      have q3 : VR K B G' H' σ ρ2 v x := VR.ofF (oa := none) h2 q fun a i f z => h2.notOwn f i z
      cases x with
      | val t => exact w1 v G' H' ((s1.trans s2).trans p.gs) h3 q3
      | own c => exact w1 v G' H' ((s1.trans s2).trans p.gs) h3 q3
      | sl i => exact w1.elim
    | ex C fs c =>
      rw [ed] at w1
      intro d fv G' H' p _ nd e r
      exact hE _ _ _ _ (w1 d G' H' fv ((s1.trans s2).trans p.gs) (step p) (h2.all d nd) e r)
    | bot =>
      rw [ed] at w1
      exact w1
  · cases w1
def ownAt (ρ : R) (i : Nat) : Option (SV × OC) := match ρ[i]? with
  | some (.ow c) => some (.ow c, c)
  | some (.io c) => some (.io c, c)
  | _ => none
theorem ownAt_ok {i : Nat} {x : SV} {c : OC} (e : ownAt ρ i = some (x, c)) : (x = .ow c ∨ x = .io c) ∧ ρ[i]? = some x := by
  unfold ownAt at e
  split at e
  · next d hd => cases e; exact ⟨.inl rfl, hd⟩
  · next d hd => cases e; exact ⟨.inr rfl, hd⟩
  · cases e
def eCallI (d : OC → List T → FR) (as : M (List Vl)) : M Vl := fun ρ => bindR (as ρ) fun xs ρ1 => match xs with
  | .sl i :: ys => match fixA ρ1 ys with
    | some (ts, ρ2) => match ownAt ρ2 i with
      | some (y, c) => match d c ts with
        | .ok x (some c') => okV x (ρ2.set i (y.rep c'))
        | .ex C fs (some c') => .ex C fs (ρ2.set i (y.rep c'))
        | _ => .bot
      | none => .bot
    | none => .bot
  | _ => .bot
theorem me_callI {E' : XK} {ta : TA} {d : OC → List T → FR} {as : M (List Vl)} (hE : ∀ σ C d H, E σ C d H → E' C d H) (ha : MA K E ta as) : ME K E (tCall (spI K d) [] E' ta) (eCallI d as) := fun B G H σ ρ Q h w => by
  refine ha B G H σ ρ _ h (WnP.imp (WnP.bind w) (Same.refl G) fun xs ρ1 w1 vs G1 H1 s1 h1 q1 => ?_)
  split at w1
  · next i ys =>
    cases q1 with
    | @cons v _ us _ q0 q1 =>
      split at w1
      · next ts ρ2 e2 =>
        obtain ⟨G2, s2, h2, r2⟩ := fixA_ok h1 q1 e2
        split at w1
        · next y c ey =>
          obtain ⟨hy, ry⟩ := ownAt_ok ey
          have es : σ[i]? = some (some v) := q0.1
          have eo : ρ2[i]? = some (.ow c) ∨ ρ2[i]? = some (.io c) := by
            rcases hy with rfl | rfl
            · exact .inl ry
            · exact .inr ry
          obtain ⟨a, o, rfl, ha1, rc, n, oi, nj⟩ := own_of h2 eo es
          rw [List.append_nil]
          refine ⟨G2, a, c, us, ts, rfl, h2.sub, ⟨h2.tb, h2.nt⟩, ⟨a, o, rfl, ha1, rc, n⟩, r2, ?_⟩
          have li : i < ρ2.length := (List.getElem?_eq_some_iff.mp ry).1
          have step : ∀ {G' H' : Hp} {c' : OC}, FP (some a) G2 H1 G' H' → OwnsC K G' H' (some (.ref a)) c' → RS K B G' H' σ (ρ2.set i (y.rep c')) := fun {G' H' c'} p oc => by
            refine h2.call p (fun b z => by cases z; exact ⟨i, oi⟩) (List.length_set ..) fun j => ?_
            by_cases cj : j = i
            · subst cj
              exact .inr ⟨a, y, c, c', rfl, es, ry, hy, by rw [List.getElem?_set, if_pos rfl, if_pos li], oc⟩
            · exact .inl ⟨set_ne' cj, fun b z q => by cases z; exact nj j cj q⟩
          have fresh : ∀ (c' : OC) b j, H1 b = none → ¬ OwnAt σ (ρ2.set i (y.rep c')) j b := fun c' b j f ⟨e1, c1, q⟩ => by
            by_cases cj : j = i
            · subst cj
              rw [es] at e1
              cases e1
              rw [ha1] at f
              cases f
            · rw [set_ne' cj] at q
              exact h2.notOwn f j ⟨e1, c1, q⟩
          cases ed : d c ts with
          | ok x oc =>
            rw [ed] at w1
            intro v G' H' p io q
            obtain ⟨c', rfl, oc⟩ := io a rfl
            have h3 := step p oc
            have q3 : VR K B G' H' σ (ρ2.set i (y.rep c')) v x := VR.ofF (oa := some a) h2 q fun b j f => fresh c' b j f
            cases x with
            | val t => exact w1 v G' H' ((s1.trans s2).trans p.gs) h3 q3
            | own c => exact w1 v G' H' ((s1.trans s2).trans p.gs) h3 q3
            | sl i => exact w1.elim
          | ex C fs oc =>
            rw [ed] at w1
            intro d fv G' H' p io nd e r
            obtain ⟨c', rfl, oc⟩ := io a rfl
            exact hE _ _ _ _ (w1 d G' H' fv ((s1.trans s2).trans p.gs) (step p oc) (h2.all d nd) e r)
          | bot =>
            rw [ed] at w1
            exact w1
        · cases w1
      · cases w1
  · cases w1
def endF (o : Out) (i : R → Option OC) : FR := match o with
  | .nx ρ => .ok (.val .non) (i ρ)
  | .rt (.val t) ρ => .ok (.val t) (i ρ)
  | .rt (.own c) ρ => .ok (.own c) (i ρ)
  | .ex C fs ρ => .ex C fs (i ρ)
  | _ => .bot
def io0 (ρ : R) : Option OC := match (ρ[0]? : Option SV) with
  | some (SV.io c) => some c
  | _ => none
def noX : FR → FR
  | .ex _ _ _ => .bot
  | r => r
def fzs : List T → R
  | [] => []
  | t :: ts => .fz t :: fzs ts
theorem fzs_map : ∀ ts : List T, fzs ts = ts.map SV.fz
  | [] => rfl
  | t :: ts => congrArg (SV.fz t :: ·) (fzs_map ts)
/-- m parameters, n names -/
def runD (m n : Nat) (b : S) (ts : List T) : FR := if ts.length = m then endF (b (fzs ts ++ List.replicate (n - m) .no)) (fun _ => none) else .bot
def runI (m n : Nat) (b : S) (c : OC) (ts : List T) : FR := if ts.length + 1 = m then endF (b (.io c :: (fzs ts ++ List.replicate (n - m) .no))) io0 else .bot
theorem start_at {N : List Str} {vs : List V} {ts : List T} {m : Nat} (hm : ts.length = m) (r : Reps K G vs ts) (i : Nat) (x : SV) (v : Option V) (e1 : (ts.map SV.fz ++ List.replicate (N.length - m) .no)[i]? = some x) (e2 : (start N vs)[i]? = some v) : (∃ t u, x = .fz t ∧ v = some u ∧ Rep K G u t) ∨ x = .no := by
  have hl := r.len
  unfold L2.start at e2
  by_cases hi : i < ts.length
  · rw [List.getElem?_append_left (by simpa using hi)] at e1
    rw [List.getElem?_append_left (by simp; omega)] at e2
    rw [List.getElem?_map] at e1 e2
    obtain ⟨u, h1, h2⟩ := r.get (List.getElem?_eq_getElem hi)
    rw [List.getElem?_eq_getElem hi] at e1
    rw [h1] at e2
    cases e1
    cases e2
    exact .inl ⟨_, _, rfl, rfl, h2⟩
  · rw [List.getElem?_append_right (by simp; omega), List.getElem?_replicate] at e1
    split at e1
    · cases e1
      exact .inr rfl
    · cases e1
theorem rs_start {N : List Str} {vs : List V} {ts : List T} {m : Nat} (hm : ts.length = m) (hN : m ≤ N.length) (s : Same G H) (tb : LamX.Tabs TabL.tabs H ∧ NtF G) (r : Reps K G vs ts) : RS K ⟨G, H, fun _ => False, []⟩ G H (start N vs) (ts.map .fz ++ List.replicate (N.length - m) .no) := by
  have len : (start N vs).length = (ts.map SV.fz ++ List.replicate (N.length - m) SV.no).length := by
    unfold L2.start
    simp [r.len]
    omega
  have noO : ∀ i a, ¬ OwnAt (start N vs) (ts.map SV.fz ++ List.replicate (N.length - m) SV.no) i a := fun i a ⟨e, c, q⟩ => by
    rcases q with q | q
    · rcases start_at hm r i _ _ q e with ⟨t, u, z, _⟩ | z <;> cases z
    · rcases start_at hm r i _ _ q e with ⟨t, u, z, _⟩ | z <;> cases z
  refine ⟨s, len, fun i x v e1 e2 => ?_, fun i j a n q _ => noO i a q, fun _ _ e _ _ => e, fun _ e => e, fun i a q => (noO i a q).elim, Same.refl G, fun _ _ e => .inl e, (fun i a m => by cases m), tb.1, tb.2⟩
  rcases start_at hm r i x v e1 e2 with ⟨t, u, rfl, rfl, z⟩ | rfl
  · exact ⟨u, rfl, z⟩
  · trivial
theorem rs_startI {N : List Str} {a : Addr} {c : OC} {vs : List V} {ts : List T} {m : Nat} (hm : ts.length + 1 = m) (hN : m ≤ N.length) (s : Same G H) (tb : LamX.Tabs TabL.tabs H ∧ NtF G) (oc : OwnsC K G H (some (.ref a)) c) (r : Reps K G vs ts) :
    RS K ⟨G, H, fun b => b = a, [(0, a)]⟩ G H (start N (.ref a :: vs)) (.io c :: (ts.map .fz ++ List.replicate (N.length - m) .no)) := by
  have est : start N (.ref a :: vs) = some (.ref a) :: (vs.map some ++ List.replicate (N.length - (vs.length + 1)) none) := by
    unfold L2.start
    rfl
  have tail : ∀ (i : Nat) (x : SV) (v : Option V), (ts.map SV.fz ++ List.replicate (N.length - m) .no)[i]? = some x → (vs.map some ++ List.replicate (N.length - (vs.length + 1)) none)[i]? = some v → (∃ t u, x = .fz t ∧ v = some u ∧ Rep K G u t) ∨ x = .no := fun i x v e1 e2 => by
    have hl := r.len
    by_cases hi : i < ts.length
    · rw [List.getElem?_append_left (by simpa using hi)] at e1
      rw [List.getElem?_append_left (by simp; omega)] at e2
      rw [List.getElem?_map] at e1 e2
      obtain ⟨u, h1, h2⟩ := r.get (List.getElem?_eq_getElem hi)
      rw [List.getElem?_eq_getElem hi] at e1
      rw [h1] at e2
      cases e1
      cases e2
      exact .inl ⟨_, _, rfl, rfl, h2⟩
    · rw [List.getElem?_append_right (by simp; omega), List.getElem?_replicate] at e1
      split at e1
      · cases e1
        exact .inr rfl
      · cases e1
  rw [est]
  have only : ∀ i b, OwnAt (some (.ref a) :: (vs.map some ++ List.replicate (N.length - (vs.length + 1)) none)) (.io c :: (ts.map .fz ++ List.replicate (N.length - m) .no)) i b → i = 0 ∧ b = a := fun i b ⟨e, c1, q⟩ => by
    cases i with
    | zero =>
      rw [List.getElem?_cons_zero] at e
      cases e
      exact ⟨rfl, rfl⟩
    | succ i =>
      rw [List.getElem?_cons_succ] at e
      rw [List.getElem?_cons_succ] at q
      rcases q with q | q
      · rcases tail i _ _ q e with ⟨t, u, z, _⟩ | z <;> cases z
      · rcases tail i _ _ q e with ⟨t, u, z, _⟩ | z <;> cases z
  refine ⟨s, ?_, fun i x v e1 e2 => ?_, fun i j b n q1 q2 => n ((only i b q1).1.trans (only j b q2).1.symm), fun _ _ e _ _ => e, fun _ e => e, fun i b q => .inl (only i b q).2, Same.refl G, fun _ _ e => .inl e, fun i b mm => ?_, tb.1, tb.2⟩
  · simp [r.len]
    omega
  · cases i with
    | zero =>
      rw [List.getElem?_cons_zero] at e1 e2
      cases e1
      cases e2
      exact oc
    | succ i =>
      rw [List.getElem?_cons_succ] at e1 e2
      rcases tail i x v e1 e2 with ⟨t, u, rfl, rfl, z⟩ | rfl
      · exact ⟨u, rfl, z⟩
      · trivial
  · have e : (i, b) = (0, a) := by simpa using mm
    cases e
    exact ⟨rfl, c, rfl⟩
/-- the body's end is the def's end -/
theorem body_end {t : TS} {b : S} {vs : List V} {ts : List T} {Q : VK} {E1 : XK} {N : List Str} {m : Nat} (hm : ts.length = m) (hN : m ≤ N.length) (s : Same G H) (tb : LamX.Tabs TabL.tabs H ∧ NtF G) (r : Reps K G vs ts) (hb : MS K (fun _ => E1) t b)
    (w : FW K none G H Q E1 (endF (b (ts.map .fz ++ List.replicate (N.length - m) .no)) (fun _ => none))) : t { nx := fun _ H' => Q .non H', rt := Q } (start N vs) H := by
  refine hb _ G H _ _ _ (rs_start hm hN s tb r) ?_
  have fp : ∀ {G' H' : Hp} {σ' : L2.St} {ρ' : R}, RS K ⟨G, H, fun _ => False, []⟩ G' H' σ' ρ' → FP none G H G' H' := fun {G' H' σ' ρ'} h => ⟨h.gs, h.sub, fun a o e _ y => h.keep a o e (fun z => z) y, h.all, fun a o e => by
    rcases h.gn a o e with z | z | z | z
    · exact .inl z
    · exact z.elim
    · exact .inr (.inl z)
    · exact .inr (.inr z), h.tb, h.nt⟩
  have io : ∀ {c : Option OC} {G' H' : Hp}, IoP K none c G' H' := fun {c G' H'} a z => by cases z
  cases eb : b (ts.map .fz ++ List.replicate (N.length - m) .no) with
  | nx ρ' =>
    rw [eb] at w
    exact fun G' H' σ' h' => w .non G' H' (fp h') io .non
  | rt x ρ' =>
    rw [eb] at w
    intro v G' H' σ' h' q
    cases x with
    | val t => exact w v G' H' (fp h') io q
    | own c =>
      obtain ⟨a, o, e, h1, r1, n, no, z⟩ := q
      refine w v G' H' (fp h') io ⟨a, o, e, h1, r1, n, ?_⟩
      rcases z with z | z
      · exact z.elim
      · exact z
    | sl i => exact w.elim
  | ex C fs ρ' =>
    rw [eb] at w
    exact fun d G' H' σ' fv h' nd e r' => w d fv G' H' (fp h') io nd e r'
  | bk ρ' => rw [eb] at w; exact w.elim
  | ct ρ' => rw [eb] at w; exact w.elim
  | bot => rw [eb] at w; exact w
theorem body_endI {t : TS} {b : S} {a : Addr} {c : OC} {vs : List V} {ts : List T} {Q : VK} {E1 : XK} {N : List Str} {m : Nat} (hm : ts.length + 1 = m) (hN : m ≤ N.length) (s : Same G H) (tb : LamX.Tabs TabL.tabs H ∧ NtF G) (oc : OwnsC K G H (some (.ref a)) c) (r : Reps K G vs ts) (hb : MS K (fun _ => E1) t b)
    (w : FW K (some a) G H Q E1 (endF (b (.io c :: (ts.map .fz ++ List.replicate (N.length - m) .no))) io0)) : t { nx := fun _ H' => Q .non H', rt := Q } (start N (.ref a :: vs)) H := by
  refine hb _ G H _ _ _ (rs_startI hm hN s tb oc r) ?_
  have pin : ∀ {G' H' : Hp} {σ' : L2.St} {ρ' : R}, RS K ⟨G, H, fun b => b = a, [(0, a)]⟩ G' H' σ' ρ' → ∃ c', io0 ρ' = some c' ∧ OwnsC K G' H' (some (.ref a)) c' ∧ OwnAt σ' ρ' 0 a := fun {G' H' σ' ρ'} h => by
    obtain ⟨p1, c', p2⟩ := h.pin 0 a List.mem_cons_self
    refine ⟨c', ?_, h.rel 0 _ _ p2 p1, p1, c', .inr p2⟩
    unfold io0
    rw [p2]
  have fp : ∀ {G' H' : Hp} {σ' : L2.St} {ρ' : R}, RS K ⟨G, H, fun b => b = a, [(0, a)]⟩ G' H' σ' ρ' → FP (some a) G H G' H' := fun {G' H' σ' ρ'} h => ⟨h.gs, h.sub, fun b o e n y => h.keep b o e (fun z => n (congrArg some z.symm)) y, h.all, fun b o e => by
    rcases h.gn b o e with z | z | z | z
    · exact .inl z
    · obtain ⟨c', _, ⟨a2, o2, e2, _, _, n2⟩, _⟩ := pin h
      cases e2
      have z : b = a := z
      rw [z, n2] at e
      cases e
    · exact .inr (.inl z)
    · exact .inr (.inr z), h.tb, h.nt⟩
  have io : ∀ {G' H' : Hp} {σ' : L2.St} {ρ' : R}, RS K ⟨G, H, fun b => b = a, [(0, a)]⟩ G' H' σ' ρ' → IoP K (some a) (io0 ρ') G' H' := fun {G' H' σ' ρ'} h b z => by
    cases z
    obtain ⟨c', e, oc, _⟩ := pin h
    exact ⟨c', e, oc⟩
  cases eb : b (.io c :: (ts.map .fz ++ List.replicate (N.length - m) .no)) with
  | nx ρ' =>
    rw [eb] at w
    exact fun G' H' σ' h' => w .non G' H' (fp h') (io h') .non
  | rt x ρ' =>
    rw [eb] at w
    intro v G' H' σ' h' q
    cases x with
    | val t => exact w v G' H' (fp h') (io h') q
    | own c =>
      obtain ⟨a2, o, e, h1, r1, n, no, z⟩ := q
      refine w v G' H' (fp h') (io h') ⟨a2, o, e, h1, r1, n, ?_⟩
      rcases z with z | z
      · obtain ⟨_, _, _, oi⟩ := pin h'
        have z : a2 = a := z
        subst z
        exact absurd oi (no 0)
      · exact z
    | sl i => exact w.elim
  | ex C fs ρ' =>
    rw [eb] at w
    exact fun d G' H' σ' fv h' nd e r' => w d fv G' H' (fp h') (io h') nd e r'
  | bk ρ' => rw [eb] at w; exact w.elim
  | ct ρ' => rw [eb] at w; exact w.elim
  | bot => rw [eb] at w; exact w
end
theorem FW.noX [TabL] {K : PySem.W.Frag} {oa : Option Addr} {G H : Hp} {Q : VK} {E E1 : XK} {r : FR} (w : FW K oa G H Q E (noX r)) : FW K oa G H Q E1 r := by
  cases r with
  | ok x c => exact w
  | ex C fs c => exact w.elim
  | bot => exact w
theorem runD_w [TabL] {K : PySem.W.Frag} {G H : Hp} {Q : VK} {E E1 : XK} {m n : Nat} {b : S} {ts : List T} (w : FW K none G H Q E (noX (runD m n b ts))) : ts.length = m ∧ FW K none G H Q E1 (endF (b (ts.map .fz ++ List.replicate (n - m) .no)) (fun _ => none)) := by
  unfold runD at w
  rw [fzs_map] at w
  by_cases e : ts.length = m
  · rw [if_pos e] at w
    exact ⟨e, w.noX⟩
  · rw [if_neg e] at w
    exact w.elim
theorem runI_w [TabL] {K : PySem.W.Frag} {oa : Option Addr} {G H : Hp} {Q : VK} {E E1 : XK} {m n : Nat} {b : S} {c : OC} {ts : List T} (w : FW K oa G H Q E (noX (runI m n b c ts))) : ts.length + 1 = m ∧ FW K oa G H Q E1 (endF (b (.io c :: (ts.map .fz ++ List.replicate (n - m) .no))) io0) := by
  unfold runI at w
  rw [fzs_map] at w
  by_cases e : ts.length + 1 = m
  · rw [if_pos e] at w
    exact ⟨e, w.noX⟩
  · rw [if_neg e] at w
    exact w.elim
section
variable [TabL] {P : Program} {w : World} {K : PySem.W.Frag} {mg : Str → Option Value} {base : Heap}
/-- a def of which no exception leaves -/
theorem okM {x qual : Str} {st : Stmt} {f : Addr} {fd : FuncData} {N ps : List Str} {k m : Nat} {b : S} (F : Fun K x qual st f fd) (S : FnScope N ps (defScope st)) (hm : ps.length = m) (hN : m ≤ N.length)
    (hb : ∀ (cdv : Value) (A : Around) (outer : List Env) (s : Shared) (H : Hp) (E : XK), Room k (A.deeper (envOfC qual (defScope st) s.heap.objs.size f cdv)) →
      ∃ t, PSs (cxOf CX0 P w K mg base N qual (defScope st) f cdv A outer s H E).nox (defBody st) t ∧ MS K EF t b) : FnOk P w K mg base CX0 (k + 1) f fd ps (spM K fun ts => noX (runD m N.length b ts)) := by
  refine F.ok S (fun vs H Q E h => ?_) (fun cdv A outer s H vs Q E hr h => ?_)
  · obtain ⟨G, ts, s, tb, r, w⟩ := h
    rw [r.len, (runD_w (E1 := E) w).1, hm]
  · obtain ⟨G, ts, s1, tb, r, w⟩ := h
    obtain ⟨t, h1, h2⟩ := hb cdv A outer s H E hr
    refine ⟨t, h1, ?_⟩
    obtain ⟨e, w⟩ := runD_w (E1 := fun _ _ _ => False) w
    exact body_end e hN s1 tb r h2 w
theorem okMI {x qual : Str} {st : Stmt} {f : Addr} {fd : FuncData} {N ps : List Str} {k m : Nat} {b : S} (F : Fun K x qual st f fd) (S : FnScope N ps (defScope st)) (hm : ps.length = m) (hN : m ≤ N.length)
    (hb : ∀ (cdv : Value) (A : Around) (outer : List Env) (s : Shared) (H : Hp) (E : XK), Room k (A.deeper (envOfC qual (defScope st) s.heap.objs.size f cdv)) →
      ∃ t, PSs (cxOf CX0 P w K mg base N qual (defScope st) f cdv A outer s H E).nox (defBody st) t ∧ MS K EF t b) : FnOk P w K mg base CX0 (k + 1) f fd ps (spI K fun c ts => noX (runI m N.length b c ts)) := by
  refine F.ok S (fun vs H Q E h => ?_) (fun cdv A outer s H vs Q E hr h => ?_)
  · obtain ⟨G, a, c, us, ts, rfl, s, tb, oc, r, w⟩ := h
    rw [List.length_cons, r.len, (runI_w (E1 := E) w).1, hm]
  · obtain ⟨G, a, c, us, ts, rfl, s1, tb, oc, r, w⟩ := h
    obtain ⟨t, h1, h2⟩ := hb cdv A outer s H E hr
    refine ⟨t, h1, ?_⟩
    obtain ⟨e, w⟩ := runI_w (E1 := fun _ _ _ => False) w
    exact body_endI e hN s1 tb oc r h2 w
/-- .. by a def's promise where no guards are -/
theorem gM {x qual : Str} {st : Stmt} {f : Addr} {fd : FuncData} {N ps : List Str} {k m : Nat} {b : S} (F : Fun K x qual st f fd) (S : FnScope N ps (defScope st)) (hm : ps.length = m) (hN : m ≤ N.length)
    (hb : ∀ (cdv : Value) (A : Around) (outer : List Env) (s : Shared) (H : Hp) (E : XK), A.guards = some [] → Room k (A.deeper (envOfC qual (defScope st) s.heap.objs.size f cdv)) →
      ∃ t, PSs (cxOf CX0 P w K mg base N qual (defScope st) f cdv A outer s H E).nox (defBody st) t ∧ MS K EF t b) : FnG P w K mg base CX0 (k + 1) f fd ps (spM K fun ts => noX (runD m N.length b ts)) := by
  refine fnG0 F S (fun vs H Q E h => ?_) (fun cdv A outer s H vs Q E hg hr h => ?_)
  · obtain ⟨G, ts, s, tb, r, w⟩ := h
    rw [r.len, (runD_w (E1 := E) w).1, hm]
  · obtain ⟨G, ts, s1, tb, r, w⟩ := h
    obtain ⟨t, h1, h2⟩ := hb cdv A outer s H E hg hr
    refine ⟨t, h1, ?_⟩
    obtain ⟨e, w⟩ := runD_w (E1 := fun _ _ _ => False) w
    exact body_end e hN s1 tb r h2 w
theorem gMI {x qual : Str} {st : Stmt} {f : Addr} {fd : FuncData} {N ps : List Str} {k m : Nat} {b : S} (F : Fun K x qual st f fd) (S : FnScope N ps (defScope st)) (hm : ps.length = m) (hN : m ≤ N.length)
    (hb : ∀ (cdv : Value) (A : Around) (outer : List Env) (s : Shared) (H : Hp) (E : XK), A.guards = some [] → Room k (A.deeper (envOfC qual (defScope st) s.heap.objs.size f cdv)) →
      ∃ t, PSs (cxOf CX0 P w K mg base N qual (defScope st) f cdv A outer s H E).nox (defBody st) t ∧ MS K EF t b) : FnG P w K mg base CX0 (k + 1) f fd ps (spI K fun c ts => noX (runI m N.length b c ts)) := by
  refine fnG0 F S (fun vs H Q E h => ?_) (fun cdv A outer s H vs Q E hg hr h => ?_)
  · obtain ⟨G, a, c, us, ts, rfl, s, tb, oc, r, w⟩ := h
    rw [List.length_cons, r.len, (runI_w (E1 := E) w).1, hm]
  · obtain ⟨G, a, c, us, ts, rfl, s1, tb, oc, r, w⟩ := h
    obtain ⟨t, h1, h2⟩ := hb cdv A outer s H E hg hr
    refine ⟨t, h1, ?_⟩
    obtain ⟨e, w⟩ := runI_w (E1 := fun _ _ _ => False) w
    exact body_endI e hN s1 tb oc r h2 w
end
end MX
set_option Elab.async false
set_option linter.all false
set_option maxRecDepth 100000
set_option maxHeartbeats 4000000
namespace MX
open PySem PySem.Spec PyProof.Rows L2 GX
section
variable [TabL] {K : PySem.W.Frag} {E : XS} {B : Bs} {G G1 H H1 : Hp} {σ : L2.St} {ρ : R}
def eCh (g g' : T → T → Option Vl) (f h c : M Vl) : M Vl := fun ρ => bindR (f ρ) fun x ρ1 => bindR (h ρ1) fun y ρ2 => match ap2 g (rdV ρ2 (stl x)) (rdV ρ2 (stl y)) with
  | some (.val (.bl k)) => if k = true then bindR (c ρ2) fun z ρ3 => opt (ap2 g' (rdV ρ3 (stl y)) (rdV ρ3 z)) ρ3 else .ok (.val (.bl false)) ρ2
  | _ => .bot
def trT : T → Option Bool
  | .non => some false
  | .bl b => some b
  | .int i => some (i != 0)
  | .str y => if y.length ≤ 16777216 then some ((y.length : Int) != 0) else none
  | .lst ts => some (!ts.isEmpty)
  | .lsk ts => some (!ts.isEmpty)
  | .tup ts => some (!ts.isEmpty)
  | _ => none
theorem Reps.emp {vs : List V} {ts : List T} (r : Reps K G vs ts) : vs.isEmpty = ts.isEmpty := by
  cases r <;> rfl
theorem trT_ok {v : V} {t : T} {k : Bool} (s : Same G H) (h : Vw K G H v t) (e : trT t = some k) : TruV K v H k := by
  unfold trT at e
  split at e
  · cases e
    obtain rfl := h.non
    rfl
  · cases e
    obtain rfl := h.bl
    rfl
  · cases e
    obtain rfl := h.int
    rfl
  · split at e
    · next hl =>
      cases e
      obtain rfl := h.str
      have hz := sizeLine_eq
      exact ⟨by omega, rfl⟩
    · cases e
  · cases e
    obtain ⟨a, vs, rfl, S, r⟩ := h.lst s
    exact .inl ⟨vs, SqL.of S, by rw [r.emp]⟩
  · cases e
    obtain ⟨a, vs, rfl, S, r⟩ := h.lsk s
    exact .inl ⟨vs, S, by rw [r.emp]⟩
  · cases e
    obtain ⟨a, vs, rfl, _, S, r⟩ := h.tup s
    exact .inr (.inl ⟨vs, S, by rw [r.emp]⟩)
  · cases e
def tR (f : M Vl) : M Bool := fun ρ => bindR (f ρ) fun x ρ1 => opt (ap1 trT (rdV ρ1 x)) ρ1
theorem mt_truth {ta : TE} {f : M Vl} (ha : ME K E ta f) : MT K E (fun σ H Q => ta σ H fun x H' => ∃ k, TruV K x H' k ∧ Q k H') (tR f) := fun B G H σ ρ Q hs w => by
  refine ha B G H σ ρ _ hs (WnP.imp (WnP.bind w) (Same.refl G) fun x ρ1 w1 v1 G1 H1 s1 h1 q1 => ?_)
  unfold opt at w1
  split at w1
  · next z ez =>
    unfold ap1 at ez
    split at ez
    · next tx ex => exact ⟨z, trT_ok h1.sub (rd_ok h1 q1 ex) ez, w1 G1 H1 s1 h1⟩
    · cases ez
  · cases w1
def oNeD (a b : T) : Option Vl := match toD a, toD b with
  | some d, some e => if SeqAt.shaped d = true ∧ SeqAt.shaped e = true then some (.val (.bl (!PyData.eqv d e))) else none
  | _, _ => none
theorem om_neD : OpM K (rNeD K) oNeD := fun B G H σ ρ x y tx ty z Q h vx vy e q => by
  unfold oNeD at e
  split at e
  · next d e' h1 h2 =>
    split at e
    · next hc =>
      cases e
      exact ⟨d, e', vwD h.sub vx h1, vwD h.sub vy h2, hc.1, hc.2, q _ _ _ (Same.refl G) h (.bl _)⟩
    · cases e
  · cases e
def tY : M Bool := fun ρ => .ok true ρ
end
end MX
set_option Elab.async false
set_option linter.all false
set_option maxRecDepth 100000
set_option maxHeartbeats 4000000
namespace MX
open PySem PySem.Spec PyProof.Rows L2 GX
section
variable [TabL] {K : PySem.W.Frag} {E : XS} {B : Bs} {G G1 H H1 : Hp} {σ : L2.St} {ρ : R}
theorem nm_of {C : Str} {a : Addr} (h : PySem.W.nsIn K mainGlobals C = some (some (.ref a))) : nm K C = a := by
  unfold nm
  rw [h]
/-- what such an __init__ promises -/
def spXI (a0 : Addr) (f : Str) : Sp := fun vs H Q _ => ∃ (a : Addr) (v : V), vs = [.ref a, v] ∧ H a = some (exo a a0 none) ∧
  ∀ dx, H dx = none → dx ≠ a → Q .non (upd (upd H dx (exd dx [(f, v)])) a (exo a a0 (some dx)))
def sRaise (C f : Str) (as : M (List Vl)) : S := fun ρ => after (as ρ) fun xs ρ1 => match fixA ρ1 xs with
  | some ([t], ρ2) => .ex C [(f, t)] ρ2
  | _ => .bot
end
end MX
set_option Elab.async false
set_option linter.all false
set_option maxRecDepth 100000
set_option maxHeartbeats 4000000
namespace MX
open PySem PySem.Spec PyProof.Rows L2 GX
/-- a class that isinstance asks for -/
inductive Cv where
  | own (C : Str) | blt (n : String)
deriving DecidableEq
def Cv.val (K : PySem.W.Frag) : Cv → Value
  | .own C => .ref (nm K C)
  | .blt n => .type n
def cvOf : T → Option Cv
  | .cls C => some (.own C)
  | .ty n => some (.blt n)
  | _ => none
def tabAt (c : Cv) : List (Cv × Bool) → Option Bool
  | [] => none
  | r :: rs => if r.1 = c then some r.2 else tabAt c rs
theorem tabAt_mem {c : Cv} {b : Bool} : ∀ {l : List (Cv × Bool)}, tabAt c l = some b → (c, b) ∈ l
  | [], e => by cases e
  | r :: rs, e => by
    unfold tabAt at e
    split at e
    · next h =>
      cases e
      rw [← h]
      exact List.mem_cons_self
    · exact List.mem_cons_of_mem _ (tabAt_mem e)
section
variable [TabL] {K : PySem.W.Frag} {E : XS} {B : Bs} {G G1 H H1 : Hp} {σ : L2.St} {ρ : R}
theorem Vw.exc {v : V} {a d : Addr} {C : Str} {fs : List (Str × T)} (h : Vw K G H v (.exc a d C fs)) : v = .ref a ∧ ∃ fv, G d = some (.xd fv) ∧ RepF K G fv fs := by
  generalize ht : T.exc a d C fs = t at h
  cases h with
  | fz r =>
    subst ht
    cases r with
    | exc e r => exact ⟨rfl, _, e, r⟩
  | own e r =>
    cases r with
    | lst => cases ht
    | ins => cases ht
    | dct => cases ht
theorem Vw.cv {v : V} {t : T} {c : Cv} (h : Vw K G H v t) (e : cvOf t = some c) : ∀ u, RelV v u → u = c.val K := by
  cases h with
  | fz r =>
    cases r with
    | cls C =>
      cases e
      exact fun u h => h
    | ty n =>
      cases e
      exact fun u h => h
    | _ => cases e
  | own e1 r =>
    cases r with
    | lst => cases e
    | ins => cases e
    | dct => cases e
theorem RepF.look {f : Str} {t : T} : ∀ {fv : List (Str × V)} {fs : List (Str × T)}, RepF K G fv fs → fs.lookup f = some t → ∃ v, fv.lookup f = some v ∧ Rep K G v t
  | _, _, .nil, e => by cases e
  | _, _, .cons (x := x) r rs, e => by
    rw [List.lookup_cons] at e ⊢
    by_cases c : (f == x) = true
    · rw [c] at e ⊢
      cases e
      exact ⟨_, rfl, r⟩
    · have c : (f == x) = false := by simpa using c
      rw [c] at e ⊢
      exact RepF.look rs e
def eXf (a d : Addr) (C f : Str) (g : M Vl) : M Vl := fun ρ => bindR (g ρ) fun x ρ1 => match rdV ρ1 x with
  | some (.exc a' d' C' fs) => if a' = a ∧ d' = d ∧ C' = C then (match fs.lookup f with
    | some t => .ok (.val t) ρ1
    | none => .bot) else .bot
  | _ => .bot
end
end MX
set_option Elab.async false
set_option linter.all false
set_option maxRecDepth 100000
set_option maxHeartbeats 4000000
namespace MX
open PySem PySem.Spec PyProof.Rows L2 GX
end MX
set_option Elab.async false
set_option linter.all false
set_option maxRecDepth 100000
set_option maxHeartbeats 4000000
namespace MX
open PySem PySem.Spec PyProof.Rows L2 GX LamX
end MX
set_option Elab.async false
set_option linter.all false
set_option maxRecDepth 100000
set_option maxHeartbeats 4000000
namespace MX
open PySem PySem.Spec PyProof.Rows L2 GX
section
variable [TabL] {K : PySem.W.Frag} {E : XS} {B : Bs} {G G1 H H1 : Hp} {σ : L2.St} {ρ : R}
/-- the mirror: dR, what the def of errors answers -/
def eLam (dR : Str → List (Str × T) → Option Vl) (f : M Vl) : M Vl := fun ρ => match f ρ with
  | .ok x ρ1 => (match fixV ρ1 x with
    | some (t, ρ2) => .ok (.own (.lst [.str "told", t])) ρ2
    | none => .bot)
  | .ex C fs ρ1 => (match dR C fs with
    | some y => okV y ρ1
    | none => .bot)
  | .bot => .bot
end
end MX
set_option Elab.async false
set_option linter.all false
set_option maxRecDepth 100000
set_option maxHeartbeats 4000000
namespace MX
open PySem PySem.Spec PyProof.Rows L2 GX
section
variable [TabL] {K : PySem.W.Frag} {E : XS} {B : Bs} {G G1 H H1 : Hp} {σ : L2.St} {ρ : R}
theorem Reps.rep {vs : List V} {ts : List T} (n : Nat) (r : Reps K G vs ts) : Reps K G (List.replicate n vs).flatten (List.replicate n ts).flatten := by
  induction n with
  | zero => exact .nil
  | succ n ih =>
    rw [List.replicate_succ, List.replicate_succ, List.flatten_cons, List.flatten_cons]
    exact r.app ih
def oRep : T → T → Option Vl
  | .lst ts, .int k => if -(2 ^ 63) ≤ k ∧ k < 2 ^ 63 ∧ ts.length * k.toNat ≤ 16777216 then some (.own (.lst (List.replicate k.toNat ts).flatten)) else none
  | _, _ => none
theorem om_rep : OpM K rRep oRep := fun B G H σ ρ x y tx ty z Q h vx vy e q => by
  unfold oRep at e
  split at e
  · next ts k =>
    split at e
    · next hc =>
      cases e
      obtain ⟨a, vs, rfl, S, r⟩ := vx.lst h.sub
      obtain rfl := vy.int
      have hz := sizeLine_eq
      refine ⟨a, k, vs, rfl, rfl, S, hc.1, hc.2.1, by rw [r.len, hz]; exact hc.2.2, fun p hp => ?_⟩
      obtain ⟨h5, q5⟩ := new_own h hp (r.rep k.toNat)
      exact q _ _ _ (Same.refl G) h5 q5
    · cases e
  · cases e
/-- reversed(range(n)) -/
def iRv1 (f : M Vl) : M (List T) := fun ρ => bindR (f ρ) fun x ρ1 => match rdV ρ1 x with
  | some (.int n) => if -(2 ^ 62) ≤ n ∧ n < 2 ^ 62 then .ok (rngT ((n.toNat : Nat) - 1 : Int) (-1) n.toNat) ρ1 else .bot
  | _ => .bot
/-- a class as a value -/
theorem me_cls {C : Str} {a : Addr} (h : nm K C = a) : ME K E (tC (.ref a)) (eC (.cls C)) := fun B G H σ ρ Q hs w => w _ G H (Same.refl G) hs (by rw [← h]; exact .cls C)
def callR (r : FR) (ρ : R) : Res Vl := match r with
  | .ok x _ => okV x ρ
  | .ex C fs _ => .ex C fs ρ
  | .bot => .bot
/-- the values by the parameters' order -/
def byK {α : Type} (idx : List Nat) (xs : List α) : List α := idx.filterMap fun i => xs[i]?
theorem byK_vals {idx : List Nat} {xs : List V} {us : List Value} (r : Vals xs us) : Vals (byK idx xs) (byK idx us) := by
  have get : ∀ {xs : List V} {us : List Value} (i : Nat), Vals xs us → (xs[i]? = none ∧ us[i]? = none) ∨ ∃ x u, xs[i]? = some x ∧ us[i]? = some u ∧ RelV x u := by
    intro xs us i r
    induction r generalizing i with
    | nil => exact .inl ⟨by simp, by simp⟩
    | cons a b ih =>
      cases i with
      | zero => exact .inr ⟨_, _, rfl, rfl, a⟩
      | succ i => simpa using ih i
  unfold byK
  induction idx with
  | nil => exact .nil
  | cons i idx ih =>
    rw [List.filterMap_cons, List.filterMap_cons]
    rcases get i r with ⟨e1, e2⟩ | ⟨x, u, e1, e2, rr⟩
    · rw [e1, e2]
      exact ih
    · rw [e1, e2]
      exact .cons rr ih
theorem kbn {fd : FuncData} {ps ks : List Str} {n : Nat} (idx : List Nat) (h : ∀ (s : Shared) (us ws : List Value), K.In s.heap → us.length = n → ws.length = ks.length → BindsTo s fd ⟨us, ks.zip ws⟩ (ps.zip (byK idx (us ++ ws)))) :
    KBn K fd ps n ks (fun us ws => byK idx (us ++ ws)) (fun vs zs => byK idx (vs ++ zs)) := ⟨fun s us ws X l1 l2 => h s us ws X l1 l2, fun {vs us zs ws} r1 r2 => byK_vals (r1.append r2)⟩
def eCallK (n m : Nat) (idx : List Nat) (d : List T → FR) (as bs : M (List Vl)) : M Vl := fun ρ => bindR (as ρ) fun xs ρ1 => bindR (bs ρ1) fun ys ρ2 => match fixA ρ2 xs with
  | some (ts, ρ3) => match fixA ρ3 ys with
    | some (us, ρ4) => if ts.length = n ∧ us.length = m then callR (d (byK idx (ts ++ us))) ρ4 else .bot
    | none => .bot
  | none => .bot
/-- f(e), e a value of one's own that f changes -/
def eCallIO (d : OC → List T → FR) (f : M Vl) : M Vl := fun ρ => bindR (f ρ) fun x ρ1 => match x with
  | .own c => match d c [] with
    | .ok x (some _) => okV x ρ1
    | .ex C fs (some _) => .ex C fs ρ1
    | _ => .bot
  | _ => .bot
theorem me_callIO {E' : XK} {te : TE} {d : OC → List T → FR} {f : M Vl} (hE : ∀ σ C d H, E σ C d H → E' C d H) (hf : ME K E te f) : ME K E (tCall (spI K d) [] E' (tCons te tNil)) (eCallIO d f) := fun B G H σ ρ Q h w => by
  refine hf B G H σ ρ _ h (WnP.imp (WnP.bind w) (Same.refl G) fun x ρ1 w1 v G1 H1 s1 h1 q1 => ?_)
  split at w1
  · next c =>
    obtain ⟨a, o, rfl, ha, rc, n, no, fr⟩ := q1
    refine ⟨G1, a, c, [], [], rfl, h1.sub, ⟨h1.tb, h1.nt⟩, ⟨a, o, rfl, ha, rc, n⟩, .nil, ?_⟩
    have step : ∀ {G' H' : Hp}, FP (some a) G1 H1 G' H' → RS K B G' H' σ ρ1 := fun {G' H'} p => h1.callF p (fun b z => by cases z; exact fr) rfl fun i => .inl ⟨rfl, fun b z => by cases z; exact no i⟩
    cases ed : d c [] with
    | ok x oc =>
      rw [ed] at w1
      intro v G' H' p io q
      obtain ⟨c', rfl, _⟩ := io a rfl
      have h3 := step p
      have q3 : VR K B G' H' σ ρ1 v x := VR.ofF (oa := some a) h1 q fun b i f z => h1.notOwn f i z
      cases x with
      | val t => exact w1 v G' H' (s1.trans p.gs) h3 q3
      | own c => exact w1 v G' H' (s1.trans p.gs) h3 q3
      | sl i => exact w1.elim
    | ex C fs oc =>
      rw [ed] at w1
      intro d fv G' H' p io nd e r
      obtain ⟨c', rfl, _⟩ := io a rfl
      exact hE _ _ _ _ (w1 d G' H' fv (s1.trans p.gs) (step p) (h1.all d nd) e r)
    | bot =>
      rw [ed] at w1
      exact w1
  · cases w1
end
end MX
set_option Elab.async false
set_option linter.all false
set_option maxRecDepth 100000
set_option maxHeartbeats 4000000
namespace MX
open PySem PySem.Spec PyProof.Rows L2 GX LamX
section
variable [TabL] {K : PySem.W.Frag} {E : XS} {wi : TI}
def iW (vs : List Nat) (f : M (List T)) : M (List T) := fun ρ => bindR (f ρ) fun ts ρ1 => match wipeR vs ρ1 with
  | some ρ2 => .ok ts ρ2
  | none => .bot
end
section
variable [TabL] {K : PySem.W.Frag} {E : XS}
theorem noX_ne (r : FR) : ∀ C fs c, noX r ≠ .ex C fs c := fun C fs c => by
  cases r with
  | ex C' fs' c' => intro z; cases z
  | ok x c' => intro z; cases z
  | bot => intro z; cases z
end
end MX
set_option Elab.async false
set_option linter.all false
set_option maxRecDepth 100000
set_option maxHeartbeats 4000000
namespace L2
open PySem PySem.Spec PyProof.Rows
end L2
namespace MX
open PySem PySem.Spec PyProof.Rows L2 GX
theorem nrk {α : Sort _} {a b : α} (h : a = b) : a = b := h
section
variable [TabL] {K : PySem.W.Frag} {B : Bs} {G G1 H H1 : Hp} {σ : L2.St} {ρ : R}
def eEdc : M Vl := fun ρ => .ok (.val .edc) ρ
theorem go_edc : eEdc ρ = .ok (.val .edc) ρ := nrk rfl
def sParE (i j : Nat) (f : M Vl) : S := fun ρ => match f ρ with
  | .ok x ρ1 => match fixV ρ1 x with
    | some (t, ρ2) => match gN i .non ρ2 with
      | some _ => match gN j t (ρ2.set i (.ow (.lst []))) with
        | some ρ4 => .nx ρ4
        | none => .bot
      | none => .bot
    | none => .bot
  | _ => .bot
def kPE (i j : Nat) (ρ2 : R) (t : T) (a : Option R) : Out := match a with
  | some _ => match gN j t (ρ2.set i (.ow (.lst []))) with
    | some ρ4 => .nx ρ4
    | none => .bot
  | none => .bot
def kPF (i j : Nat) (o : Option (T × R)) : Out := match o with
  | some (t, ρ2) => kPE i j ρ2 t (gN i .non ρ2)
  | none => .bot
def kPG (i j : Nat) (r : Res Vl) : Out := match r with
  | .ok x ρ1 => kPF i j (fixV ρ1 x)
  | _ => .bot
def kPH (a : Option R) : Out := match a with
  | some ρ4 => .nx ρ4
  | none => .bot
theorem go_parE (i j : Nat) (f : M Vl) : sParE i j f ρ = kPG i j (f ρ) := nrk rfl
theorem kPG_ok (i j : Nat) (x : Vl) : kPG i j (.ok x ρ) = kPF i j (fixV ρ x) := nrk rfl
theorem kPF_ok (i j : Nat) (t : T) : kPF i j (some (t, ρ)) = kPE i j ρ t (gN i .non ρ) := nrk rfl
theorem kPE_ok (i j : Nat) (ρ1 : R) (t : T) : kPE i j ρ t (some ρ1) = kPH (gN j t (ρ.set i (.ow (.lst [])))) := nrk rfl
theorem kPH_ok : kPH (some ρ) = .nx ρ := nrk rfl
end
end MX
set_option Elab.async false
set_option linter.all false
set_option maxRecDepth 100000
set_option maxHeartbeats 4000000
namespace MX
open PySem PySem.Spec PyProof.Rows L2 GX
section
variable [TabL] {K : PySem.W.Frag} {B : Bs} {G G1 H H1 : Hp} {σ : L2.St} {ρ : R} {E : XS}
theorem repF_len : ∀ {fs : List (Str × V)} {gs : List (Str × T)}, RepF K G fs gs → fs.length = gs.length
  | _, _, .nil => rfl
  | _, _, .cons _ r => by rw [List.length_cons, List.length_cons, repF_len r]
theorem repF_look {f : Str} {t : T} : ∀ {fs : List (Str × V)} {gs : List (Str × T)}, RepF K G fs gs → gs.lookup f = some t → ∃ v, fs.lookup f = some v ∧ Rep K G v t
  | _, _, .nil, e => by cases e
  | _, _, .cons (x := x) q r, e => by
    rw [List.lookup_cons] at e ⊢
    split at e
    · cases e
      exact ⟨_, rfl, q⟩
    · exact repF_look r e
def putT (f : Str) (t : T) : List (Str × T) → List (Str × T)
  | [] => [(f, t)]
  | (g, x) :: r => if g = f then (g, t) :: r else (g, x) :: putT f t r
theorem repF_put {f : Str} {v : V} {t : T} (q : Rep K G v t) : ∀ {fs : List (Str × V)} {gs : List (Str × T)}, RepF K G fs gs → RepF K G (putF f v fs) (putT f t gs)
  | _, _, .nil => .cons q .nil
  | _, _, .cons (x := x) q2 r => by
    unfold putF putT
    by_cases h : x = f
    · rw [if_pos h, if_pos h]
      exact .cons q r
    · rw [if_neg h, if_neg h]
      exact .cons q2 (repF_put q r)
/-- x.f = e, x an instance of one's own -/
def insAt (ρ : R) (i : Nat) : Option (SV × Str × List (Str × T)) := match ρ[i]? with
  | some (.ow (.ins C gs)) => some (.ow (.ins C gs), C, gs)
  | some (.io (.ins C gs)) => some (.io (.ins C gs), C, gs)
  | _ => none
theorem insAt_ok {i : Nat} {x : SV} {C : Str} {gs : List (Str × T)} (h : RS K B G H σ ρ) (e : insAt ρ i = some (x, C, gs)) : ∃ a dx fs, σ[i]? = some (some (.ref a)) ∧ (x = .ow (.ins C gs) ∨ x = .io (.ins C gs)) ∧ ρ[i]? = some x ∧ H a = some (.ins (nm K C) dx fs) ∧ RepF K G fs gs := by
  have len : ∀ {y : SV}, ρ[i]? = some y → ∃ v, σ[i]? = some v := fun {y} ey => by
    have hl : i < ρ.length := (List.getElem?_eq_some_iff.mp ey).1
    exact ⟨_, List.getElem?_eq_getElem (by rw [h.len]; exact hl)⟩
  unfold insAt at e
  split at e
  · next C' gs' ex =>
    cases e
    obtain ⟨v, ev⟩ := len ex
    obtain ⟨a, o, rfl, ha, rc, _⟩ := h.rel i _ v ex ev
    cases rc with
    | ins r => exact ⟨a, _, _, ev, .inl rfl, ex, ha, r⟩
  · next C' gs' ex =>
    cases e
    obtain ⟨v, ev⟩ := len ex
    obtain ⟨a, o, rfl, ha, rc, _⟩ := h.rel i _ v ex ev
    cases rc with
    | ins r => exact ⟨a, _, _, ev, .inr rfl, ex, ha, r⟩
  · cases e
def sFldS (Cl : List Str) (i : Nat) (f : Str) (g : M Vl) : S := fun ρ => after (g ρ) fun y ρ1 => match fixV ρ1 y with
  | some (t, ρ2) => match insAt ρ2 i with
    | some (x, C, gs) => if C ∈ Cl ∧ gs.length < 1000 then .nx (ρ2.set i (x.rep (.ins C (putT f t gs)))) else .bot
    | none => .bot
  | none => .bot
theorem ms_fld {Cl : List Str} {i : Nat} {f : Str} {tv : TE} {g : M Vl} (hC : ∀ C ∈ Cl, Cls K (nm K C) ∧ NoAttr K (nm K C) f) (hv : ME K E tv g) : MS K E (sFld K (tVar i) tv f) (sFldS Cl i f g) := fun B G H σ ρ D h w => by
  refine hv B G H σ ρ _ h (to_s w fun y ρ1 w1 v G1 H1 s1 h1 q1 => ?_)
  split at w1
  · next t ρ2 e =>
    obtain ⟨G2, s2, h2, r2⟩ := fix_ok h1 q1 e
    split at w1
    · next x C gs ex =>
      split at w1
      · next hc =>
        obtain ⟨a, dx, fs, es, hx, er, ha, r⟩ := insAt_ok h2 ex
        obtain ⟨k1, k2⟩ := hC C hc.1
        refine ⟨.ref a, es, a, _, dx, fs, rfl, ha, k1, k2, by rw [repF_len r]; exact hc.2, ?_⟩
        exact w1 G2 _ σ (h2.writeAt hx er es (.ins (repF_put r2 r)))
      · cases w1
    · cases w1
  · cases w1
/-- C(..) -/
def eMake (C : Str) (d : OC → List T → FR) (as : M (List Vl)) : M Vl := fun ρ => bindR (as ρ) fun xs ρ1 => match fixA ρ1 xs with
  | some (ts, ρ2) => match d (.ins C []) ts with
    | .ok (.val .non) (some c') => .ok (.own c') ρ2
    | .ex C' fs (some _) => .ex C' fs ρ2
    | _ => .bot
  | none => .bot
/-- o.m(..): o stays as it is -/
def eMeth (C : Str) (m : Str) (d : List T → FR) (f : M Vl) (as : M (List Vl)) : M Vl := fun ρ => bindR (f ρ) fun x ρ1 => match fixV ρ1 x with
  | some (.obj C' gs, ρ2) => if C' = C ∧ gs.lookup m = none then bindR (as ρ2) fun xs ρ3 => (match fixA ρ3 xs with
    | some (ts, ρ4) => (match d (.obj C gs :: ts) with
      | .ok y _ => okV y ρ4
      | .ex C fs _ => .ex C fs ρ4
      | .bot => .bot)
    | none => .bot) else .bot
  | _ => .bot
end
end MX
set_option Elab.async false
set_option linter.all false
set_option maxRecDepth 100000
set_option maxHeartbeats 4000000
namespace MX
open PySem PySem.Spec PyProof.Rows L2 GX
section
variable [TabL] {K : PySem.W.Frag} {B : Bs} {G G1 H H1 : Hp} {σ : L2.St} {ρ : R} {E : XS}
def getD (gs : List (Key × T)) (k : Key) : Option T := (gs.find? fun kv => decide (kv.1 = k)).map (·.2)
def putD (gs : List (Key × T)) (k : Key) (t : T) : List (Key × T) := if (gs.any fun kv => decide (kv.1 = k)) = true then gs.map (fun kv => if kv.1 = k then (kv.1, t) else kv) else gs ++ [(k, t)]
theorem Vw.dct {v : V} {gs : List (Key × T)} (h : Vw K G H v (.dct gs)) (s : Same G H) : ∃ a fs, v = .ref a ∧ H a = some (.dK fs) ∧ RepD K G fs gs := by
  generalize e : T.dct gs = t at h
  cases h with
  | fz r => subst e; cases r; exact ⟨_, _, rfl, s _ _ (by assumption), by assumption⟩
  | own e1 r => cases r <;> cases e; exact ⟨_, _, rfl, e1, by assumption⟩
/-- a key -/
def keyT : T → Option Key
  | .int i => some (.inl i)
  | .str x => some (.inr x)
  | _ => none
def keyO : Option T → Option Key
  | some t => keyT t
  | none => none
def oDG : T → T → Option Vl
  | .dct gs, t => match keyT t with
    | some k => match getD gs k with
      | some u => some (.val u)
      | none => none
    | none => none
  | _, _ => none
def oDI (neg : Bool) : T → T → Option Vl
  | t, .dct gs => match keyT t with
    | some k => some (.val (.bl (if neg then !(getD gs k).isSome else (getD gs k).isSome)))
    | none => none
  | _, _ => none
def dctAt (ρ : R) (i : Nat) : Option (SV × List (Key × T)) := match ρ[i]? with
  | some (.ow (.dct gs)) => some (.ow (.dct gs), gs)
  | some (.io (.dct gs)) => some (.io (.dct gs), gs)
  | _ => none
def sDPutS (i : Nat) (g f : M Vl) : S := fun ρ => after (f ρ) fun x ρ1 => match fixV ρ1 x with
  | some (t, ρ2) => match dctAt ρ2 i with
    | some _ => after (g ρ2) fun y ρ3 => (match keyO (rdV ρ3 y) with
      | some k => (match dctAt ρ3 i with
        | some (z, gs) => if gs.length < 16777216 then .nx (ρ3.set i (z.rep (.dct (putD gs k t)))) else .bot
        | none => .bot)
      | none => .bot)
    | none => .bot
  | none => .bot
/-- {} -/
def eDc0 : M Vl := fun ρ => .ok (.own (.dct [])) ρ
def dcL (h : T → R → Option R) (c : M Bool) (ek ev : M Vl) (vs : List Nat) : List T → List (Key × T) → R → Res Vl
  | [], acc, ρ => .ok (.own (.dct acc)) ρ
  | t :: ts, acc, ρ => match h t ρ with
    | some ρ1 => match c ρ1 with
      | .ok k ρ2 => if k = true then (match ek ρ2 with
        | .ok x ρ3 => match keyO (rdV ρ3 x) with
          | some key => (match ev ρ3 with
            | .ok z ρ6 => match fixV ρ6 z with
              | some (u, ρ4) => match wipeR vs ρ4 with
                | some ρ5 => if acc.length < 16777216 then dcL h c ek ev vs ts (putD acc key u) ρ5 else .bot
                | none => .bot
              | none => .bot
            | _ => .bot)
          | none => .bot
        | _ => .bot) else (match wipeR vs ρ2 with
          | some ρ5 => dcL h c ek ev vs ts acc ρ5
          | none => .bot)
      | _ => .bot
    | none => .bot
def eDc (its : M (List T)) (h : T → R → Option R) (c : M Bool) (ek ev : M Vl) (vs : List Nat) : M Vl := fun ρ => bindR (its ρ) fun ts ρ1 => if noAt ρ1 vs = true then dcL h c ek ev vs ts [] ρ1 else .bot
end
end MX
set_option Elab.async false
set_option linter.all false
set_option maxRecDepth 100000
set_option maxHeartbeats 4000000
namespace MX
open PySem PySem.Spec PyProof.Rows L2 GX LamX
section
variable [TabL] {K : PySem.W.Frag} {E : XS} {B : Bs} {G G1 H H1 : Hp} {σ : L2.St} {ρ : R}
def eLam2 (dR : Str → List (Str × T) → Option Vl) (f : M Vl) : M Vl := fun ρ => match f ρ with
  | .ok x ρ1 => (match fixV ρ1 x with
    | some (t, ρ2) => (match bRepr [t] with
      | some (.val (.str s)) => .ok (.val (.tup [.str "told", .str s])) ρ2
      | _ => .bot)
    | none => .bot)
  | .ex C fs ρ1 => (match dR C fs with
    | some y => okV y ρ1
    | none => .bot)
  | .bot => .bot
end
end MX
set_option Elab.async false
set_option linter.all false
set_option maxRecDepth 100000
set_option maxHeartbeats 4000000
namespace PySem.W
open PySem PySem.Calls PyProof.Rows
end PySem.W
namespace OX
open PySem PySem.Spec PyProof.Rows L2
section
variable {X : Cx} {pins : List (Addr × Obj)} {σ : L2.St} {H : Hp} {s : Shared} {k : Nat} {f C : Addr} {fd : FuncData} {ps : List Str} {sp : Sp}
/-- a def is called where more stands around -/
theorem call_at {A' : Around} {us : List Value} {vs : List V} {Q : VK} (F : FnOk X.prog X.w X.K X.mg X.base CX0 k f fd ps sp) (hr : Room k A') (hA : A'.frames = some X.stack) (hb : Binds X.K fd ps [])
    (I : Inv X pins σ H s) (r : Vals vs us) (h : sp vs H Q E0) : wpAny (model X.prog X.w) A' (call (.ref f) us) (EP X pins σ Q) X.xe s := by
  have hl : us.length = ps.length := r.length.symm.trans (F.len _ _ _ _ h)
  have bd := hb s us I.kIn
  rw [List.append_nil] at bd
  have e := I.env0
  refine wpAny_call (codeAny_mono (F.run A' X.stack s H ⟨us, []⟩ us vs Q E0 hr ⟨hA, e.mod, e.bs, e.bsz, e.funs, e.frf, e.hok, e.bare⟩ (bd hl) r h) ?_)
  intro r' s' z
  match r', z with
  | .error e', z => exact z.elim
  | .ok (.ret u), z => exact I.after z
  | .ok .next, z => exact z.elim
  | .ok .brk, z => exact z.elim
  | .ok .cont, z => exact z.elim
def rOwnS (C : Addr) (sp : Sp) : List V → Hp → VK → Prop := fun xs H Q => ∃ (a dx : Addr) (fs : List (Str × V)), xs = [.ref a] ∧ H a = some (.ins C dx fs) ∧
  sp [.ref a] H (fun v H' => ∃ z, v = .str z ∧ Q (.str z) H') E0
theorem back_str {Q : VK} {v : Value} {s' : Shared} (h : EP X pins σ (fun v H' => ∃ z, v = .str z ∧ Q (.str z) H') v s') : PySem.W.StrBack (EP X pins σ Q) v s' := by
  obtain ⟨x, H', J, r, z, e, q⟩ := h
  subst e
  obtain ⟨t, e2⟩ := (show ∃ t, v = Value.str z t from r)
  subst e2
  exact ⟨.str z, H', J, ⟨t, rfl⟩, q⟩
/-- repr(o) -/
theorem call_reprO (hs : PySem.W.findIn X.K (.ref C) "__repr__" = some (some (.ref f))) (hf : PySem.W.isFn X.K (.ref f) = true) (F : FnOk X.prog X.w X.K X.mg X.base CX0 k f fd ps sp)
    (hr : Room (k + 1) X.A) (hb : Binds X.K fd ps []) : CallR X (.builtin "repr") (rOwnS C sp) := by
  intro pins s σ H xs us Q I r h
  obtain ⟨a, dx, fs, rfl, ea, q⟩ := h
  rw [Vals.ref1 r]
  obtain ⟨mA, O, _⟩ := ins_get I.hok ea
  obtain ⟨od, J, _⟩ := O.look
  obtain ⟨m, fr⟩ := I.fr
  have hA : X.A.in1.frames = some X.stack := I.ok.frames
  exact PySem.W.repr_K (by have := hr.un; show X.A.units + 1 < cLine; omega) fr I.ok.mod.kin J hs hf (wpAny_mono (call_at F hr.in1 hA hb I (show Vals [.ref a] [.ref a] from .cons rfl .nil) q) (fun _ _ z => back_str z) fun _ _ z => z)
end
end OX
set_option Elab.async false
set_option linter.all false
set_option maxRecDepth 100000
set_option maxHeartbeats 4000000
namespace PySem.W
open PySem PySem.Calls PyProof.Rows
end PySem.W
set_option Elab.async false
set_option linter.all false
set_option maxRecDepth 100000
set_option maxHeartbeats 4000000
namespace PySem.W
open PySem PySem.Calls PyProof.Rows
end PySem.W
set_option Elab.async false
set_option linter.all false
set_option maxRecDepth 100000
set_option maxHeartbeats 4000000
namespace OX
open PySem PySem.Spec PyProof.Rows L2
inductive KT
  | int | bl | non | str | lst | tup | dct
def KT.nm : KT → String
  | .int => "int" | .bl => "bool" | .non => "NoneType" | .str => "str" | .lst => "list" | .tup => "tuple" | .dct => "dict"
/-- values of built-in kinds -/
inductive KV : Value → KT → Prop
  | int (i : Int) (t : Tok) : KV (.int i t) .int
  | bl (b : Bool) : KV (.bool b) .bl
  | non : KV .none .non
  | str (x : Str) (t : Tok) : KV (.str x t) .str
  | lst (a : Addr) : KV (.ref a) .lst
  | tup (a : Addr) : KV (.ref a) .tup
  | dct (a : Addr) : KV (.ref a) .dct
inductive Kd (H : Hp) : V → KT → Prop
  | int (i : Int) : Kd H (.int i) .int
  | bl (b : Bool) : Kd H (.bl b) .bl
  | non : Kd H .non .non
  | str (x : Str) : Kd H (.str x) .str
  | lst {a : Addr} {xs : List V} (e : H a = some (.lst xs)) : Kd H (.ref a) .lst
  | tup {a : Addr} {xs : List V} (e : H a = some (.tup xs)) : Kd H (.ref a) .tup
  | dK {a : Addr} {kvs : List (Key × V)} (e : H a = some (.dK kvs)) : Kd H (.ref a) .dct
theorem Kd.keep {H H' : Hp} {x : V} {T : KT} (k : Kd H x T) (s : ∀ b o, H b = some o → H' b = some o) : Kd H' x T := by
  cases k with
  | int i => exact .int i
  | bl b => exact .bl b
  | non => exact .non
  | str x => exact .str x
  | lst e => exact .lst (s _ _ e)
  | tup e => exact .tup (s _ _ e)
  | dK e => exact .dK (s _ _ e)
section
variable {X : Cx} {pins : List (Addr × Obj)} {σ : L2.St} {H : Hp} {s : Shared}
theorem Kd.val {x : V} {u : Value} {T : KT} (I : Inv X pins σ H s) (k : Kd H x T) (r : RelV x u) : KV u T ∧ s.TypeIs u T.nm := by
  cases k with
  | int i => obtain ⟨t, rfl⟩ := (show ∃ t, u = Value.int i t from r); exact ⟨.int i t, rfl⟩
  | bl b => cases (show u = Value.bool b from r); exact ⟨.bl b, rfl⟩
  | non => cases (show u = Value.none from r); exact ⟨.non, rfl⟩
  | str y => obtain ⟨t, rfl⟩ := (show ∃ t, u = Value.str y t from r); exact ⟨.str y t, rfl⟩
  | @lst a xs ea =>
    cases (show u = Value.ref a from r)
    obtain ⟨_, _, n, _, h1⟩ := (show ObjOk X.prog X.w H s.heap a (.lst xs) from I.hok a _ ea)
    exact ⟨.lst a, _, h1, rfl⟩
  | @tup a xs ea =>
    cases (show u = Value.ref a from r)
    obtain ⟨_, _, _, p⟩ := (show ObjOk X.prog X.w H s.heap a (.tup xs) from I.hok a _ ea)
    obtain ⟨o, h1, h2, _⟩ := p
    exact ⟨.tup a, o, h1, h2⟩
  | @dK a kvs ea =>
    cases (show u = Value.ref a from r)
    obtain ⟨_, _, vs, _, p⟩ := (show ObjOk X.prog X.w H s.heap a (.dK kvs) from I.hok a _ ea)
    obtain ⟨o, es, ep, h1, h2, _⟩ := p
    exact ⟨.dct a, o, h1, h2.1⟩
variable {k : Nat} {f g C : Addr} {fd gd : FuncData} {ps qs : List Str} {spL spR : Sp} {Ls Rs : List KT} {op : CmpOp}
end
end OX
set_option Elab.async false
set_option linter.all false
set_option maxRecDepth 100000
set_option maxHeartbeats 4000000
namespace PySem.W
open PySem PySem.Calls PyProof.Rows
end PySem.W
set_option Elab.async false
set_option linter.all false
set_option maxRecDepth 100000
set_option maxHeartbeats 4000000
namespace PySem.W
open PySem PySem.Calls PyProof.Rows
end PySem.W
set_option Elab.async false
set_option linter.all false
set_option maxRecDepth 100000
set_option maxHeartbeats 4000000
set_option Elab.async false
set_option linter.all false
set_option maxRecDepth 100000
set_option maxHeartbeats 4000000
namespace PySem.W
open PySem PySem.Calls PyProof.Rows Builtin
end PySem.W
set_option Elab.async false
set_option linter.all false
set_option maxRecDepth 100000
set_option maxHeartbeats 4000000
namespace GX
open PySem PySem.Spec PyProof.Rows L2
/-- the written part's word of such a class: its base B -/
structure OexT (K : PySem.W.Frag) (C : Addr) : Prop where
  facts : ∃ (B newId initId : String) (tl : List Value), StoreFacts B tl "object.__setattr__" "object" ∧ ExcBaseFacts B newId initId tl ∧
    ∃ n0 q0 N bs bm sn sb ab co dd m0 m1 m2 m3 m5, K.lookup C = some (excClassObj n0 q0 C N bs bm true sn sb ab co dd m0 m1 m2 m3 m5 newId) ∧ PySem.W.excTail tl bm = true
  sa : PySem.W.findIn K (.ref C) "__setattr__" = some (some (.builtin "object.__setattr__"))
  eb : PySem.W.subIn K (.ref C) (.type "BaseException") = some true
  ty : PySem.W.typeIn K (.ref C) = some (.type "type")
  kp : PySem.W.keepIn K (.ref C) = true
abbrev exV (C t1 : Addr) (d : Option Addr) : Obj := { cls := .ref C, dict := d, data := .fields #[.ref t1, .none, .none, .none, .bool false, .none] }
section
open Builtin Builtin.ObjectAttr
variable {M : Model} {A : Around} {E : Value → Shared → Prop} {hp : Heap} {g : Array GenState} {d : Drawn} {t : Nat} {os : OsState}
/-- the first field: the dict is made -/
theorem own_first {K : PySem.W.Frag} {x C : Addr} {name : Str} {tk : Tok} {v : Value} {b : Bool} {fv : Array Value} {cd : ClassData} {Q : Fin → Shared → Prop} (KX : K.In hp)
    (gx : hp.get? x = some { cls := .ref C, data := .fields fv }) (kc : PySem.W.clsIn K C = some cd) (hd : cd.hasDict = true)
    (q : ∀ h2 t2 dx, (∀ c o, c ≠ x → hp.get? c = some o → h2.get? c = some o) → hp.objs.size ≤ dx → dx ≠ x → h2.get? x = some { cls := .ref C, dict := some dx, data := .fields fv } →
      h2.Ns1 dx (fun y => if y = name then some v else none) → Q (.done (.ret .none)) ⟨h2, g, d, t2, os⟩) :
    wpAny M A (storeInOwnDict (.ref x) (.ref C) (.str name tk) name v b) Q E ⟨hp, g, d, t, os⟩ := by
  have far : x ≠ hp.objs.size := Nat.ne_of_lt (Heap.lt_size gx)
  have lc : PySem.W.Looks M hp (classData C) cd := PySem.W.looks_clsIn KX kc
  obtain ⟨c1, c2, c3, c4, c5, c6, c7, c8, c9, c10, c11⟩ := cd
  dsimp only at hd
  subst hd
  unfold storeInOwnDict ownDictForStores
  repeat (first | with_reducible refine PySem.HandSPX.store_in_new ?_ ?_ | with_reducible refine wpAny_loadPart_at gx ?_ | with_reducible refine lc.at ?_ | wp_step)
  · exact ⟨_, #[], _, (Heap.get?_update_ne _ _ _ _ far.symm).trans (Heap.get?_push_at rfl rfl), rfl, fun e he => absurd he (by simp), fun _ => rfl⟩
  · intro h2 t2 ns same
    have px : (hp.push { cls := .type "dict", data := .dict #[] }).get? x = some { cls := .ref C, data := .fields fv } := Heap.get?_push_of_some _ gx
    refine q h2 t2 hp.objs.size (fun c o ne co => ?_) (Nat.le_refl _) far.symm ?_ ns
    · have ce : c ≠ hp.objs.size := Nat.ne_of_lt (Heap.lt_size co)
      exact (same.2 c ce).trans ((Heap.get?_update_ne _ _ _ _ ne).trans (Heap.get?_push_of_some _ co))
    · exact (same.2 x far).trans (Heap.get?_update_self _ px rfl)
end
section
variable {X : Cx} {pins : List (Addr × Obj)} {σ : L2.St} {H : Hp} {s : Shared} {a C : Addr} {f : Str} {y : V} {u : Value} {Q : Unit → Shared → Prop} {E : Value → Shared → Prop} {A : Around}
theorem OexT.over (T : OexT X.K C) : ∃ B tl, StoreFacts B tl "object.__setattr__" "object" ∧ PySem.W.excOver X.K C tl = true ∧ ∃ cd, PySem.W.clsIn X.K C = some cd ∧ cd.hasDict = true := by
  obtain ⟨B, newId, initId, tl, sf, fb, n0, q0, N, bs, bm, sn, sb, ab, co, dd, m0, m1, m2, m3, m5, lk, et⟩ := T.facts
  have kc : PySem.W.clsIn X.K C = some { name := n0, bases := bs, mro := .ref C :: bm, ns := N, qualname := q0, hasDict := true, slotNames := sn, subclasses := sb, abstract := ab, collection := co, hasDel := false } := by
    unfold PySem.W.clsIn
    rw [lk] <;> rfl
  refine ⟨B, tl, sf, ?_, _, kc, rfl⟩
  unfold PySem.W.excOver
  rw [kc]
  show (C == C && PySem.W.excTail tl bm) = true
  rw [et]
  simp
/-- self.f = y, the first field -/
theorem set_first (T : OexT X.K C) (I : Inv X pins σ H s) (e : H a = some (exo a C none)) (no : PySem.W.findIn X.K (.ref C) f = some none) (ry : RelV y u)
    (h : ∀ dx s2, H dx = none → dx ≠ a → Inv X pins σ (upd (upd H dx (exd dx [(f, y)])) a (exo a C (some dx))) s2 → Q () s2) : wpAny (model X.prog X.w) A (setAttr (.ref a) f u) Q E s := by
  obtain ⟨B, tl, sf, ov, cd, kc, hd⟩ := T.over
  obtain ⟨t1, here⟩ := exo_at I.hok e
  obtain ⟨hp, g, d, t, os⟩ := s
  have tk0 : PySem.W.takerIn X.K C f = some none := by
    unfold PySem.W.takerIn
    rw [no] <;> rfl
  refine PySem.W.set_plain I.kIn (ox := exV C t1 none) (od := none) ⟨here, rfl, rfl, trivial⟩ T.sa ?_
  refine PySem.W.osa_openX sf I.kIn (ox := exV C t1 none) (od := none) ⟨here, rfl, rfl, trivial⟩ ov tk0 fun b => ?_
  refine own_first I.kIn here kc hd fun h2 t2 dx kept fresh ne gx ns => ?_
  have nd : H dx = none := I.hok.fresh fresh
  have off : ∀ {b : Addr} {o : Obj}, hp.get? b = some o → b ≠ dx := fun q => Nat.ne_of_lt (Nat.lt_of_lt_of_le (Heap.lt_size q) fresh)
  have offA : ∀ {b : Addr}, H b = none → b ≠ a := fun n z => by
    subst z
    rw [e] at n
    cases n
  have step : Un X.fs [] H (upd (upd H dx (exd dx [(f, y)])) a (exo a C (some dx))) hp h2 := by
    refine ⟨fun b o q n _ _ => kept b o (offA n) q, fun b o q n _ _ => ⟨o.slots, kept b o (offA n) q⟩, fun b o q n _ => ?_, fun b o q _ => ?_, fun b xs q => ?_, fun b o v q => ?_, fun b ps q => ⟨#[], ?_⟩⟩
    · rw [upd_ne (offA n), upd_ne (off q)]
      exact n
    · by_cases z : b = a
      · subst z
        exact ⟨_, gx⟩
      · exact ⟨o, kept b o z q⟩
    · rw [upd_ne (at_ne e q exo_tup), upd_ne (ne_of_none q nd)]
      exact q
    · rw [upd_ne (at_ne e q exo_frz), upd_ne (ne_of_none q nd)]
      exact q
    · rw [upd_ne (at_ne e q exo_tbl), upd_ne (ne_of_none q nd), q]
      simp
  refine h dx _ nd ne (I.un (t' := t2) step fun b o q => ?_)
  by_cases za : b = a
  · subst za
    rw [upd_same] at q
    cases q
    exact exo_ok gx
  rw [upd_ne za] at q
  by_cases zd : b = dx
  · subst zd
    rw [upd_same] at q
    cases q
    exact exd_ok ns (relO_put (fs := []) ry fun _ => trivial)
  rw [upd_ne zd] at q
  refine (I.hok b o q).stay (fun c v hc z => kept c v ?_ z) (fun c hc => ?_) (fun c xs hc => ?_)
  · rcases hc with hc | hc
    · rw [hc]
      exact za
    · exact at_ne e hc exo_own
  · rw [upd_ne (at_ne e hc exo_own), upd_ne (ne_of_none hc nd)]
    exact hc
  · rw [upd_ne (at_ne e hc exo_tup), upd_ne (ne_of_none hc nd)]
    exact hc
/-- self.f = e in such an __init__, the first field -/
def tFst (K : PySem.W.Frag) (f : Str) (to te : TE) : TS := fun D σ H => te σ H fun y H1 => to σ H1 fun x H2 => ∃ a C : Addr, x = .ref a ∧ OexT K C ∧ PySem.W.findIn K (.ref C) f = some none ∧
  H2 a = some (exo a C none) ∧ ∀ dx, H2 dx = none → dx ≠ a → D.nx σ (upd (upd H2 dx (exd dx [(f, y)])) a (exo a C (some dx)))
theorem ps_fst {o e : Expr} {to te : TE} {p' pos : Pos} (ho : PE X o to) (he : PE X e te) (hs : swapsWith e (some (.Attribute o f p')) pos.line X.env = pure false := by rfl) : PS X (.Assign [.Attribute o f p'] e pos) (tFst X.K f to te) := by
  constructor
  intro pins s σ H D I h
  refine plainObj_wpAny_Assign_Attribute (thn (he.run pins s σ H _ I h) ?_) hs
  rintro v s1 ⟨y, H1, I1, r1, q1⟩
  refine thn (ho.run pins s1 σ H1 _ I1 q1) ?_
  rintro u s2 ⟨x, H2, I2, r2, a, C, rfl, T, no, ea, q⟩
  obtain rfl : u = Value.ref a := r2
  exact set_first T I2 ea no r1 fun dx s3 n ne J => ⟨σ, _, J, q dx n ne⟩
end
end GX
set_option Elab.async false
set_option linter.all false
set_option maxRecDepth 100000
set_option maxHeartbeats 4000000
namespace MX
open PySem PySem.Spec PyProof.Rows L2 GX
def tys : List String := ["NoneType", "bool", "int", "str", "tuple", "list", "dict"]
structure OTy (K : PySem.W.Frag) (a : Addr) : Prop where
  cl : Cls K a
  ha : PySem.W.findIn K (.ref a) "__class__" = some (some (.builtin "object.__class__"))
  hn : PySem.W.specialIn K (.builtin "object.__class__") "__get__" = some (some (.builtin "getset_descriptor.__get__"))
  ht : PySem.W.takesIn K (.builtin "object.__class__") = some true
  hm : PySem.W.mroIn K a (.type "object") = some true
structure OCl (K : PySem.W.Frag) (C : Str) (a : Addr) (os : List Str) : Prop where
  nm : nm K C = a
  ki : ∀ n ∈ tys, PySem.W.kitOne K (.type n) (.ref a) = some false
  nf : ∀ n ∈ tys, PySem.W.notFirst K a (.type n) = true
  os : ∀ D ∈ os, OTy K (MX.nm K D) ∧ PySem.W.kitOne K (.ref (MX.nm K D)) (.ref a) = some (decide (D = C)) ∧ PySem.W.notFirst K a (.ref (MX.nm K D)) = true
def tyS : T → Option String
  | .dct _ => some "dict"
  | t => tyN t
section
variable [TabL] {K : PySem.W.Frag} {E : XS} {B : Bs} {G G1 H H1 : Hp} {σ : L2.St} {ρ : R}
theorem Vw.cls {v : V} {C : Str} (h : Vw K G H v (.cls C)) : v = .ref (nm K C) := by
  generalize e : T.cls C = t at h
  cases h with
  | fz r => subst e; cases r; rfl
  | own e1 r => cases r <;> cases e
/-- isinstance(x, C) -/
def isO (C : Str) (os : List Str) : T → Option Bool
  | .obj D _ => if D ∈ os then some (decide (D = C)) else none
  | t => match tyS t with
    | some _ => some false
    | none => none
def bIsO (C : Str) (os : List Str) : List T → Option Vl
  | [t, .cls C'] => if C' = C then (match isO C os t with
    | some b => some (.val (.bl b))
    | none => none) else none
  | _ => none
def eOwn2 (k : T → T → R → Res Vl) (f g : M Vl) : M Vl := fun ρ => bindR (f ρ) fun x ρ1 => bindR (g ρ1) fun y ρ2 => match fixV ρ2 (stl x) with
  | some (t, ρ3) => (match fixV ρ3 (stl y) with
    | some (u, ρ4) => k t u ρ4
    | none => .bot)
  | none => .bot
def refR (r : FR) (ρ : R) : Res Vl := match r with
  | .ok (.val (.obj D fs)) _ => .ok (.val (.obj D fs)) ρ
  | .ok (.own c) _ => .ok (.own c) ρ
  | .ex C fs _ => .ex C fs ρ
  | _ => .bot
def blR : FR → Option Bool
  | .ok (.val (.bl c)) _ => some c
  | _ => none
/-- a op b, both of the class -/
def kOwnX (C : Str) (d : List T → FR) (t u : T) (ρ : R) : Res Vl := match t, u with
  | .obj C1 gs, .obj C2 hs => if C1 = C ∧ C2 = C then refR (d [.obj C gs, .obj C hs]) ρ else .bot
  | _, _ => .bot
/-- a == y, a != y (by the class's __eq__) -/
def kOwnQ (neg : Bool) (C : Str) (os : List Str) (d : List T → FR) (t u : T) (ρ : R) : Res Vl := match t, isO C os u with
  | .obj C1 gs, some _ => if C1 = C then (match blR (d [.obj C gs, u]) with
    | some c => .ok (.val (.bl (if neg then !c else c))) ρ
    | none => .bot) else .bot
  | _, _ => .bot
/-- y in a -/
def kOwnI (C : Str) (d : List T → FR) (t u : T) (ρ : R) : Res Vl := match u with
  | .obj C1 gs => if C1 = C then (match blR (d [.obj C gs, t]) with
    | some c => .ok (.val (.bl c)) ρ
    | none => .bot) else .bot
  | _ => .bot
/-- the truth of a -/
def tOwn (C : Str) (d : List T → FR) (f : M Vl) : M Bool := fun ρ => bindR (f ρ) fun x ρ1 => match fixV ρ1 x with
  | some (.obj C1 gs, ρ2) => if C1 = C then (match blR (d [.obj C gs]) with
    | some c => .ok c ρ2
    | none => .bot) else .bot
  | _ => .bot
def eNotO (C : Str) (d : List T → FR) (f : M Vl) : M Vl := fun ρ => bindR (tOwn C d f ρ) fun c ρ1 => .ok (.val (.bl (!c))) ρ1
def aStar (f : M Vl) (g : M (List Vl)) : M (List Vl) := fun ρ => bindR (f ρ) fun x ρ1 => match fixV ρ1 x with
  | some (t, ρ2) => (match seqOf t with
    | some ts => bindR (g ρ2) fun xs ρ3 => .ok (ts.map Vl.val ++ xs) ρ3
    | none => .bot)
  | none => .bot
end
end MX
namespace MX
open PySem PySem.Spec PyProof.Rows L2 GX
/-- def f(self, *v): the promise by position -/
def dS (d : OC → List T → FR) : OC → List T → FR := fun c ts => if ts.length ≤ 16777216 then d c [.tup ts] else .bot
section
variable [TabL] {P : Program} {w : World} {K : PySem.W.Frag} {mg : Str → Option Value} {base : Heap}
theorem FP.laid {oa : Option Addr} {G H G' H' : Hp} {p : Addr} {xs : List V} (hp : H p = none) (hg : G p = none) (f : FP oa (upd G p (.tup xs)) (upd H p (.tup xs)) G' H') : FP oa G H G' H' := by
  refine ⟨(same_new hg).trans f.gs, f.sub, fun a o e n y => f.keep a o (same_new hp a o e) n y, fun a e => ?_, fun a o e => ?_, f.tb, f.nt⟩
  · have z := f.all a e
    by_cases c : a = p
    · subst c
      exact hp
    · rwa [upd_ne c] at z
  · rcases f.gn a o e with z | z | z
    · by_cases c : a = p
      · subst c
        exact .inr (.inl hp)
      · rw [upd_ne c] at z
        exact .inl z
    · by_cases c : a = p
      · subst c
        exact .inr (.inl hp)
      · rw [upd_ne c] at z
        exact .inr (.inl z)
    · exact .inr (.inr z)
theorem FW.laid {oa : Option Addr} {G H : Hp} {p : Addr} {xs : List V} {Q : VK} {E : XK} {r : FR} (hp : H p = none) (hg : G p = none) (w : FW K oa G H Q E r) : FW K oa (upd G p (.tup xs)) (upd H p (.tup xs)) Q E r := by
  have hn : ∀ a, upd H p (.tup xs) a = none → H a = none := fun a z => by
    by_cases c : a = p
    · subst c
      exact hp
    · rwa [upd_ne c] at z
  cases r with
  | ok x c =>
    intro v G' H' f io q
    refine w v G' H' (f.laid hp hg) io ?_
    cases x with
    | val t => exact q
    | own c =>
      obtain ⟨a, o, e, h1, r, n, z⟩ := q
      exact ⟨a, o, e, h1, r, n, hn a z⟩
    | sl i => exact q
  | ex C fs c => exact fun d fv G' H' f io nd e r => w d fv G' H' (f.laid hp hg) io (hn d nd) e r
  | bot => exact w
end
end MX
set_option Elab.async false
set_option linter.all false
set_option maxRecDepth 100000
set_option maxHeartbeats 4000000
namespace MX
open PySem PySem.Spec PyProof.Rows L2 GX
theorem isIo_no : SV.isIo .no = false := rfl
theorem isIo_fz (t : T) : SV.isIo (.fz t) = false := rfl
theorem isIo_ow (c : OC) : SV.isIo (.ow c) = false := rfl
theorem isIo_io (c : OC) : SV.isIo (.io c) = true := rfl
theorem oI0_int (g : Int → Int → T) (i j : Int) : oI0 g (.int i) (.int j) = some (.val (g i j)) := rfl
theorem stl_val (t : T) : stl (.val t) = .val t := rfl
theorem stl_own (c : OC) : stl (.own c) = .val c.fix := rfl
theorem stl_sl (i : Nat) : stl (.sl i) = .sl i := rfl
theorem gN_ok {i : Nat} {t : T} {ρ : R} {y : SV} (e : ρ[i]? = some y) (h : y.isIo = false) : gN i t ρ = some (ρ.set i (.fz t)) := by
  unfold gN
  rw [e]
  dsimp only
  rw [if_neg (by rw [h]; exact Bool.false_ne_true)]
/-- one item of a comprehension -/
def lc1 (h : T → R → Option R) (c : M Bool) (e : M Vl) (vs : List Nat) (t : T) (ρ : R) : Option (Option T × R) := match h t ρ with
  | some ρ1 => match c ρ1 with
    | .ok k ρ2 => if k = true then (match e ρ2 with
      | .ok x ρ3 => match fixV ρ3 x with
        | some (u, ρ4) => match wipeR vs ρ4 with
          | some ρ5 => some (some u, ρ5)
          | none => none
        | none => none
      | _ => none) else (match wipeR vs ρ2 with
        | some ρ5 => some (none, ρ5)
        | none => none)
    | _ => none
  | none => none
theorem lcL_cons {h : T → R → Option R} {c : M Bool} {e : M Vl} {vs : List Nat} {t : T} {ts acc : List T} {ρ ρ' : R} {o : Option T} (h1 : lc1 h c e vs t ρ = some (o, ρ')) (hl : acc.length < 16777216) :
    lcL h c e vs (t :: ts) acc ρ = lcL h c e vs ts (acc ++ o.toList) ρ' := by
  unfold lc1 at h1
  conv => lhs; unfold lcL
  split at h1
  · next ρ1 e1 =>
    split at h1
    · next k ρ2 e2 =>
      cases k with
      | true =>
        rw [if_pos rfl] at h1
        split at h1
        · next x ρ3 e3 =>
          split at h1
          · next u ρ4 e4 =>
            split at h1
            · next ρ5 e5 =>
              cases h1
              simp [e1, e2, e3, e4, e5, hl]
            · cases h1
          · cases h1
        · cases h1
      | false =>
        rw [if_neg Bool.false_ne_true] at h1
        split at h1
        · next ρ5 e5 =>
          cases h1
          simp [e1, e2, e5]
        · cases h1
    · cases h1
  · cases h1
theorem cpow10 {j : Int} (h0 : 0 ≤ j) (h1 : j ≤ 1000000) : CPow 10 j ↔ True := iff_true_intro ⟨h0, h1, by decide⟩
theorem cpow2 {j : Int} (h0 : 0 ≤ j) (h1 : j ≤ 1000000) : CPow 2 j ↔ True := iff_true_intro ⟨h0, h1, by decide⟩
theorem cpow5 {j : Int} (h0 : 0 ≤ j) (h1 : j ≤ 1000000) : CPow 5 j ↔ True := iff_true_intro ⟨h0, h1, by decide⟩
theorem ix30 : ixN 3 0 = some 0 := rfl
theorem ix31 : ixN 3 1 = some 1 := rfl
theorem ix32 : ixN 3 2 = some 2 := rfl
theorem at30 (a b c : T) : atT [a, b, c] 0 = some (.val a) := rfl
theorem at31 (a b c : T) : atT [a, b, c] 1 = some (.val b) := rfl
theorem at32 (a b c : T) : atT [a, b, c] 2 = some (.val c) := rfl
theorem at20 (a b : T) : atT [a, b] 0 = some (.val a) := rfl
theorem at21 (a b : T) : atT [a, b] 1 = some (.val b) := rfl
abbrev iT (xs : List Int) : List T := xs.map T.int
theorem atI_nat' {ts : List T} {i : Nat} {t : T} (h : ts[i]? = some t) : atT ts (i : Int) = some (.val t) := by
  unfold atT
  rw [atI_nat h]
theorem iT_get {xs : List Int} {i : Nat} {z : Int} (h : xs[i]? = some z) : (iT xs)[i]? = some (.int z) := by
  rw [List.getElem?_map, h]
  rfl
theorem rngT_at {lo c : Int} {n i : Nat} {t : T} (e : (rngT lo c n)[i]? = some t) : i < n ∧ t = .int (lo + i * c) := by
  have hi := (List.getElem?_eq_some_iff.mp e).1
  rw [rngT_len] at hi
  exact ⟨hi, rngT_get e⟩
end MX
set_option Elab.async false
set_option linter.all false
set_option maxRecDepth 100000
set_option maxHeartbeats 4000000
namespace MX
open PySem PySem.Spec PyProof.Rows L2 GX
theorem nr {α : Type} {a b : α} (h : a = b) : a = b := h
section
variable {ρ : R}
def kOp (g : T → T → Option Vl) (h : M Vl) (r : Res Vl) : Res Vl := bindR r fun x ρ1 => bindR (h ρ1) fun y ρ2 => opt (ap2 g (rdV ρ2 (stl x)) (rdV ρ2 y)) ρ2
def kOp2 (g : T → T → Option Vl) (x : Vl) (r : Res Vl) : Res Vl := bindR r fun y ρ2 => opt (ap2 g (rdV ρ2 (stl x)) (rdV ρ2 y)) ρ2
theorem go_op (g : T → T → Option Vl) (f h : M Vl) : eOp g f h ρ = kOp g h (f ρ) := nr rfl
theorem kOp_ok (g : T → T → Option Vl) (h : M Vl) (x : Vl) : kOp g h (.ok x ρ) = kOp2 g x (h ρ) := nr rfl
theorem kOp2_ok (g : T → T → Option Vl) (x y : Vl) : kOp2 g x (.ok y ρ) = opt (ap2 g (rdV ρ (stl x)) (rdV ρ y)) ρ := nr rfl
def kUn (g : T → Option Vl) (r : Res Vl) : Res Vl := bindR r fun x ρ1 => opt (ap1 g (rdV ρ1 x)) ρ1
theorem go_un (g : T → Option Vl) (f : M Vl) : eUn g f ρ = kUn g (f ρ) := nr rfl
theorem kUn_ok (g : T → Option Vl) (x : Vl) : kUn g (.ok x ρ) = opt (ap1 g (rdV ρ x)) ρ := nr rfl
def kB (g : List T → Option Vl) (r : Res (List Vl)) : Res Vl := bindR r fun xs ρ1 => opt (ap1 g (rdA ρ1 xs)) ρ1
theorem go_b (g : List T → Option Vl) (a : M (List Vl)) : eB g a ρ = kB g (a ρ) := nr rfl
theorem kB_ok (g : List T → Option Vl) (xs : List Vl) : kB g (.ok xs ρ) = opt (ap1 g (rdA ρ xs)) ρ := nr rfl
def kTV (r : Res Vl) : Res Bool := bindR r fun x ρ1 => opt (ap1 isB (rdV ρ1 x)) ρ1
theorem go_tV (f : M Vl) : tV f ρ = kTV (f ρ) := nr rfl
theorem kTV_ok (x : Vl) : kTV (.ok x ρ) = opt (ap1 isB (rdV ρ x)) ρ := nr rfl
def kTR (r : Res Vl) : Res Bool := bindR r fun x ρ1 => opt (ap1 trT (rdV ρ1 x)) ρ1
theorem go_tR (f : M Vl) : tR f ρ = kTR (f ρ) := nr rfl
theorem kTR_ok (x : Vl) : kTR (.ok x ρ) = opt (ap1 trT (rdV ρ x)) ρ := nr rfl
def kA (g : M Bool) (r : Res Bool) : Res Bool := bindR r fun c ρ1 => if c = true then g ρ1 else .ok false ρ1
theorem go_tA (f g : M Bool) : tA f g ρ = kA g (f ρ) := nr rfl
theorem kA_t (g : M Bool) : kA g (.ok true ρ) = g ρ := nr rfl
theorem kA_f (g : M Bool) : kA g (.ok false ρ) = .ok false ρ := nr rfl
def kO (g : M Bool) (r : Res Bool) : Res Bool := bindR r fun c ρ1 => if c = true then .ok true ρ1 else g ρ1
theorem go_tO (f g : M Bool) : tO f g ρ = kO g (f ρ) := nr rfl
theorem kO_t (g : M Bool) : kO g (.ok true ρ) = .ok true ρ := nr rfl
theorem kO_f (g : M Bool) : kO g (.ok false ρ) = g ρ := nr rfl
def kN (r : Res Bool) : Res Bool := bindR r fun c ρ1 => .ok (!c) ρ1
theorem go_tN (f : M Bool) : tN f ρ = kN (f ρ) := nr rfl
theorem kN_ok (c : Bool) : kN (.ok c ρ) = .ok (!c) ρ := nr rfl
def kEA (g : M Vl) (r : Res Bool) : Res Vl := bindR r fun c ρ1 => if c = true then g ρ1 else .ok (.val (.bl false)) ρ1
theorem go_eA (f g : M Vl) : eA f g ρ = kEA g (tV f ρ) := nr rfl
theorem kEA_t (g : M Vl) : kEA g (.ok true ρ) = g ρ := nr rfl
theorem kEA_f (g : M Vl) : kEA g (.ok false ρ) = .ok (.val (.bl false)) ρ := nr rfl
def kEO (g : M Vl) (r : Res Bool) : Res Vl := bindR r fun c ρ1 => if c = true then .ok (.val (.bl true)) ρ1 else g ρ1
theorem go_eO (f g : M Vl) : eO f g ρ = kEO g (tV f ρ) := nr rfl
theorem kEO_t (g : M Vl) : kEO g (.ok true ρ) = .ok (.val (.bl true)) ρ := nr rfl
theorem kEO_f (g : M Vl) : kEO g (.ok false ρ) = g ρ := nr rfl
def kEN (r : Res Bool) : Res Vl := bindR r fun c ρ1 => .ok (.val (.bl (!c))) ρ1
theorem go_eN (f : M Vl) : eN f ρ = kEN (tV f ρ) := nr rfl
theorem kEN_ok (c : Bool) : kEN (.ok c ρ) = .ok (.val (.bl (!c))) ρ := nr rfl
def kIf (f g : M Vl) (r : Res Bool) : Res Vl := bindR r fun b ρ1 => if b = true then f ρ1 else g ρ1
theorem go_eIf (c : M Bool) (f g : M Vl) : eIf c f g ρ = kIf f g (c ρ) := nr rfl
theorem kIf_t (f g : M Vl) : kIf f g (.ok true ρ) = f ρ := nr rfl
theorem kIf_f (f g : M Vl) : kIf f g (.ok false ρ) = g ρ := nr rfl
def kAC (g : M (List Vl)) (r : Res Vl) : Res (List Vl) := bindR r fun x ρ1 => bindR (g ρ1) fun xs ρ2 => .ok (stl x :: xs) ρ2
def kAC2 (x : Vl) (r : Res (List Vl)) : Res (List Vl) := bindR r fun xs ρ2 => .ok (stl x :: xs) ρ2
theorem go_aC (f : M Vl) (g : M (List Vl)) : aC f g ρ = kAC g (f ρ) := nr rfl
theorem kAC_ok (g : M (List Vl)) (x : Vl) : kAC g (.ok x ρ) = kAC2 x (g ρ) := nr rfl
theorem kAC2_ok (x : Vl) (xs : List Vl) : kAC2 x (.ok xs ρ) = .ok (stl x :: xs) ρ := nr rfl
theorem go_aN : aN ρ = .ok [] ρ := nr rfl
def kL (r : Res (List Vl)) : Res Vl := bindR r fun xs ρ1 => mkL ρ1 xs
theorem go_eL (g : M (List Vl)) : eL g ρ = kL (g ρ) := nr rfl
theorem kL_ok (xs : List Vl) : kL (.ok xs ρ) = mkL ρ xs := nr rfl
def kTu (r : Res (List Vl)) : Res Vl := bindR r fun xs ρ1 => mkT ρ1 xs
theorem go_eT (g : M (List Vl)) : eT g ρ = kTu (g ρ) := nr rfl
theorem kTu_ok (xs : List Vl) : kTu (.ok xs ρ) = mkT ρ xs := nr rfl
def cLst (n : Nat) (ts : List T) (ρ : R) : Res Vl := if n ≤ 16777216 then .ok (.own (.lst ts)) ρ else .bot
def cTup (n : Nat) (ts : List T) (ρ : R) : Res Vl := if n ≤ 16777216 then .ok (.val (.tup ts)) ρ else .bot
def kFL (o : Option (List T × R)) : Res Vl := match o with
  | some (ts, ρ1) => cLst ts.length ts ρ1
  | none => .bot
def kFT (o : Option (List T × R)) : Res Vl := match o with
  | some (ts, ρ1) => cTup ts.length ts ρ1
  | none => .bot
theorem go_mkL (xs : List Vl) : mkL ρ xs = kFL (fixA ρ xs) := nr rfl
theorem go_mkT (xs : List Vl) : mkT ρ xs = kFT (fixA ρ xs) := nr rfl
theorem kFL_ok (ts : List T) : kFL (some (ts, ρ)) = cLst ts.length ts ρ := nr rfl
theorem kFT_ok (ts : List T) : kFT (some (ts, ρ)) = cTup ts.length ts ρ := nr rfl
def kFxS (i : Nat) (ρ : R) (o : Option SV) : Option (T × R) := match o with
  | some (.fz t) => some (t, ρ)
  | some (.ow c) => some (c.fix, ρ.set i (.fz c.fix))
  | _ => none
theorem fx_val (t : T) : fixV ρ (.val t) = some (t, ρ) := nr rfl
theorem fx_own (c : OC) : fixV ρ (.own c) = some (c.fix, ρ) := nr rfl
theorem fx_sl (i : Nat) : fixV ρ (.sl i) = kFxS i ρ ρ[i]? := nr rfl
theorem kFxS_fz (i : Nat) (t : T) : kFxS i ρ (some (.fz t)) = some (t, ρ) := nr rfl
theorem kFxS_ow (i : Nat) (c : OC) : kFxS i ρ (some (.ow c)) = some (c.fix, ρ.set i (.fz c.fix)) := nr rfl
def kFA (xs : List Vl) (o : Option (T × R)) : Option (List T × R) := match o with
  | some (t, ρ1) => match fixA ρ1 xs with
    | some (ts, ρ2) => some (t :: ts, ρ2)
    | none => none
  | none => none
def kFA2 (t : T) (o : Option (List T × R)) : Option (List T × R) := match o with
  | some (ts, ρ2) => some (t :: ts, ρ2)
  | none => none
theorem fxA_nil : fixA ρ [] = some ([], ρ) := nr rfl
theorem fxA_cons (x : Vl) (xs : List Vl) : fixA ρ (x :: xs) = kFA xs (fixV ρ x) := nr rfl
theorem kFA_ok (xs : List Vl) (t : T) : kFA xs (some (t, ρ)) = kFA2 t (fixA ρ xs) := nr rfl
theorem kFA2_ok (t : T) (ts : List T) : kFA2 t (some (ts, ρ)) = some (t :: ts, ρ) := nr rfl
def kRdS (o : Option SV) : Option T := match o with
  | some (.fz t) => some t
  | some (.ow c) => some c.fix
  | some (.io c) => some c.fix
  | _ => none
theorem rd_val (t : T) : rdV ρ (.val t) = some t := nr rfl
theorem rd_own (c : OC) : rdV ρ (.own c) = some c.fix := nr rfl
theorem rd_sl (i : Nat) : rdV ρ (.sl i) = kRdS ρ[i]? := nr rfl
theorem kRdS_fz (t : T) : kRdS (some (.fz t)) = some t := nr rfl
theorem kRdS_ow (c : OC) : kRdS (some (.ow c)) = some c.fix := nr rfl
theorem kRdS_io (c : OC) : kRdS (some (.io c)) = some c.fix := nr rfl
theorem fix_lst (ts : List T) : OC.fix (.lst ts) = .lst ts := nr rfl
theorem fix_ins (C : Str) (fs : List (Str × T)) : OC.fix (.ins C fs) = .obj C fs := nr rfl
def kRA (xs : List Vl) (ρ : R) (o : Option T) : Option (List T) := match o with
  | some t => match rdA ρ xs with
    | some ts => some (t :: ts)
    | none => none
  | none => none
def kRA2 (t : T) (o : Option (List T)) : Option (List T) := match o with
  | some ts => some (t :: ts)
  | none => none
theorem rdA_nil : rdA ρ [] = some [] := nr rfl
theorem rdA_cons (x : Vl) (xs : List Vl) : rdA ρ (x :: xs) = kRA xs ρ (rdV ρ x) := nr rfl
theorem kRA_ok (xs : List Vl) (t : T) : kRA xs ρ (some t) = kRA2 t (rdA ρ xs) := nr rfl
theorem kRA2_ok (t : T) (ts : List T) : kRA2 t (some ts) = some (t :: ts) := nr rfl
def kV (i : Nat) (ρ : R) (o : Option SV) : Res Vl := match o with
  | some .no => .bot
  | some _ => .ok (.sl i) ρ
  | none => .bot
theorem go_eV (i : Nat) : eV i ρ = kV i ρ ρ[i]? := nr rfl
theorem kV_fz (i : Nat) (t : T) : kV i ρ (some (.fz t)) = .ok (.sl i) ρ := nr rfl
theorem kV_ow (i : Nat) (c : OC) : kV i ρ (some (.ow c)) = .ok (.sl i) ρ := nr rfl
theorem kV_io (i : Nat) (c : OC) : kV i ρ (some (.io c)) = .ok (.sl i) ρ := nr rfl
theorem go_eC (t : T) : eC t ρ = .ok (.val t) ρ := nr rfl
theorem ap1_ok {α β : Type} (g : β → Option α) (a : β) : ap1 g (some a) = g a := nr rfl
theorem ap2_ok (g : T → T → Option Vl) (a b : T) : ap2 g (some a) (some b) = g a b := nr rfl
theorem opt_ok {α : Type} (x : α) : opt (some x) ρ = .ok x ρ := nr rfl
def kSl (l h : M (Option Int)) (r : Res Vl) : Res Vl := bindR r fun x ρ1 => bindR (l ρ1) fun lo ρ2 => bindR (h ρ2) fun hi ρ3 => opt (ap1 (slT lo hi) (rdV ρ3 (stl x))) ρ3
def kSl2 (x : Vl) (h : M (Option Int)) (r : Res (Option Int)) : Res Vl := bindR r fun lo ρ2 => bindR (h ρ2) fun hi ρ3 => opt (ap1 (slT lo hi) (rdV ρ3 (stl x))) ρ3
def kSl3 (x : Vl) (lo : Option Int) (r : Res (Option Int)) : Res Vl := bindR r fun hi ρ3 => opt (ap1 (slT lo hi) (rdV ρ3 (stl x))) ρ3
theorem go_eSl (f : M Vl) (l h : M (Option Int)) : eSl f l h ρ = kSl l h (f ρ) := nr rfl
theorem kSl_ok (l h : M (Option Int)) (x : Vl) : kSl l h (.ok x ρ) = kSl2 x h (l ρ) := nr rfl
theorem kSl2_ok (x : Vl) (h : M (Option Int)) (lo : Option Int) : kSl2 x h (.ok lo ρ) = kSl3 x lo (h ρ) := nr rfl
theorem kSl3_ok (x : Vl) (lo hi : Option Int) : kSl3 x lo (.ok hi ρ) = opt (ap1 (slT lo hi) (rdV ρ (stl x))) ρ := nr rfl
theorem go_pN : pN ρ = .ok none ρ := nr rfl
def kPS (r : Res Vl) : Res (Option Int) := bindR r fun x ρ1 => opt (ap1 isI' (rdV ρ1 x)) ρ1
theorem go_pS (f : M Vl) : pS f ρ = kPS (f ρ) := nr rfl
theorem kPS_ok (x : Vl) : kPS (.ok x ρ) = opt (ap1 isI' (rdV ρ x)) ρ := nr rfl
theorem slT_lst (lo hi : Option Int) (ts : List T) : slT lo hi (.lst ts) = some (.own (.lst (cutT ts lo hi))) := nr rfl
theorem slT_lsk (lo hi : Option Int) (ts : List T) : slT lo hi (.lsk ts) = some (.own (.lst (cutT ts lo hi))) := nr rfl
theorem slT_tup (lo hi : Option Int) (ts : List T) : slT lo hi (.tup ts) = some (.val (.tup (cutT ts lo hi))) := nr rfl
def kCh (g g' : T → T → Option Vl) (h c : M Vl) (r : Res Vl) : Res Vl := bindR r fun x ρ1 => bindR (h ρ1) fun y ρ2 => match ap2 g (rdV ρ2 (stl x)) (rdV ρ2 (stl y)) with
  | some (.val (.bl k)) => if k = true then bindR (c ρ2) fun z ρ3 => opt (ap2 g' (rdV ρ3 (stl y)) (rdV ρ3 z)) ρ3 else .ok (.val (.bl false)) ρ2
  | _ => .bot
def kCh2 (g g' : T → T → Option Vl) (c : M Vl) (x : Vl) (r : Res Vl) : Res Vl := bindR r fun y ρ2 => match ap2 g (rdV ρ2 (stl x)) (rdV ρ2 (stl y)) with
  | some (.val (.bl k)) => if k = true then bindR (c ρ2) fun z ρ3 => opt (ap2 g' (rdV ρ3 (stl y)) (rdV ρ3 z)) ρ3 else .ok (.val (.bl false)) ρ2
  | _ => .bot
def kCh3 (g' : T → T → Option Vl) (c : M Vl) (y : Vl) (ρ2 : R) (o : Option Vl) : Res Vl := match o with
  | some (.val (.bl k)) => if k = true then bindR (c ρ2) fun z ρ3 => opt (ap2 g' (rdV ρ3 (stl y)) (rdV ρ3 z)) ρ3 else .ok (.val (.bl false)) ρ2
  | _ => .bot
theorem go_eCh (g g' : T → T → Option Vl) (f h c : M Vl) : eCh g g' f h c ρ = kCh g g' h c (f ρ) := nr rfl
theorem kCh_ok (g g' : T → T → Option Vl) (h c : M Vl) (x : Vl) : kCh g g' h c (.ok x ρ) = kCh2 g g' c x (h ρ) := nr rfl
theorem kCh2_ok (g g' : T → T → Option Vl) (c : M Vl) (x y : Vl) : kCh2 g g' c x (.ok y ρ) = kCh3 g' c y ρ (ap2 g (rdV ρ (stl x)) (rdV ρ (stl y))) := nr rfl
theorem kCh3_t (g' : T → T → Option Vl) (c : M Vl) (y : Vl) : kCh3 g' c y ρ (some (.val (.bl true))) = kOp2 g' y (c ρ) := nr rfl
theorem kCh3_f (g' : T → T → Option Vl) (c : M Vl) (y : Vl) : kCh3 g' c y ρ (some (.val (.bl false))) = .ok (.val (.bl false)) ρ := nr rfl
def kCall (d : List T → FR) (r : Res (List Vl)) : Res Vl := bindR r fun xs ρ1 => match fixA ρ1 xs with
  | some (ts, ρ2) => match d ts with
    | .ok x _ => okV x ρ2
    | .ex C fs _ => .ex C fs ρ2
    | .bot => .bot
  | none => .bot
def kCall2 (d : List T → FR) (o : Option (List T × R)) : Res Vl := match o with
  | some (ts, ρ2) => match d ts with
    | .ok x _ => okV x ρ2
    | .ex C fs _ => .ex C fs ρ2
    | .bot => .bot
  | none => .bot
def kCall3 (ρ2 : R) (r : FR) : Res Vl := match r with
  | .ok x _ => okV x ρ2
  | .ex C fs _ => .ex C fs ρ2
  | .bot => .bot
theorem go_call (d : List T → FR) (as : M (List Vl)) : eCall d as ρ = kCall d (as ρ) := nr rfl
theorem kCall_ok (d : List T → FR) (xs : List Vl) : kCall d (.ok xs ρ) = kCall2 d (fixA ρ xs) := nr rfl
theorem kCall2_ok (d : List T → FR) (ts : List T) : kCall2 d (some (ts, ρ)) = kCall3 ρ (d ts) := nr rfl
theorem kCall3_val (t : T) (c : Option OC) : kCall3 ρ (.ok (.val t) c) = .ok (.val t) ρ := nr rfl
theorem kCall3_own (o : OC) (c : Option OC) : kCall3 ρ (.ok (.own o) c) = .ok (.own o) ρ := nr rfl
theorem kCall3_ex (C : Str) (fs : List (Str × T)) (c : Option OC) : kCall3 ρ (.ex C fs c) = .ex C fs ρ := nr rfl
def kCI (d : OC → List T → FR) (r : Res (List Vl)) : Res Vl := bindR r fun xs ρ1 => match xs with
  | .sl i :: ys => match fixA ρ1 ys with
    | some (ts, ρ2) => match ownAt ρ2 i with
      | some (y, c) => match d c ts with
        | .ok x (some c') => okV x (ρ2.set i (y.rep c'))
        | .ex C fs (some c') => .ex C fs (ρ2.set i (y.rep c'))
        | _ => .bot
      | none => .bot
    | none => .bot
  | _ => .bot
def kCI2 (d : OC → List T → FR) (i : Nat) (o : Option (List T × R)) : Res Vl := match o with
  | some (ts, ρ2) => match ownAt ρ2 i with
    | some (y, c) => match d c ts with
      | .ok x (some c') => okV x (ρ2.set i (y.rep c'))
      | .ex C fs (some c') => .ex C fs (ρ2.set i (y.rep c'))
      | _ => .bot
    | none => .bot
  | none => .bot
def kCI3 (d : OC → List T → FR) (i : Nat) (ts : List T) (ρ2 : R) (o : Option (SV × OC)) : Res Vl := match o with
  | some (y, c) => match d c ts with
    | .ok x (some c') => okV x (ρ2.set i (y.rep c'))
    | .ex C fs (some c') => .ex C fs (ρ2.set i (y.rep c'))
    | _ => .bot
  | none => .bot
def kCI4 (i : Nat) (y : SV) (ρ2 : R) (r : FR) : Res Vl := match r with
  | .ok x (some c') => okV x (ρ2.set i (y.rep c'))
  | .ex C fs (some c') => .ex C fs (ρ2.set i (y.rep c'))
  | _ => .bot
theorem go_callI (d : OC → List T → FR) (as : M (List Vl)) : eCallI d as ρ = kCI d (as ρ) := nr rfl
theorem kCI_ok (d : OC → List T → FR) (i : Nat) (ys : List Vl) : kCI d (.ok (.sl i :: ys) ρ) = kCI2 d i (fixA ρ ys) := nr rfl
theorem kCI2_ok (d : OC → List T → FR) (i : Nat) (ts : List T) : kCI2 d i (some (ts, ρ)) = kCI3 d i ts ρ (ownAt ρ i) := nr rfl
theorem kCI3_ok (d : OC → List T → FR) (i : Nat) (ts : List T) (y : SV) (c : OC) : kCI3 d i ts ρ (some (y, c)) = kCI4 i y ρ (d c ts) := nr rfl
theorem kCI4_val (i : Nat) (y : SV) (t : T) (c : OC) : kCI4 i y ρ (.ok (.val t) (some c)) = .ok (.val t) (ρ.set i (y.rep c)) := nr rfl
theorem kCI4_own (i : Nat) (y : SV) (o c : OC) : kCI4 i y ρ (.ok (.own o) (some c)) = .ok (.own o) (ρ.set i (y.rep c)) := nr rfl
theorem kCI4_ex (i : Nat) (y : SV) (C : Str) (fs : List (Str × T)) (c : OC) : kCI4 i y ρ (.ex C fs (some c)) = .ex C fs (ρ.set i (y.rep c)) := nr rfl
theorem rep_ow (c c' : OC) : SV.rep c' (.ow c) = .ow c' := nr rfl
theorem rep_io (c c' : OC) : SV.rep c' (.io c) = .io c' := nr rfl
def kOA (o : Option SV) : Option (SV × OC) := match o with
  | some (.ow c) => some (.ow c, c)
  | some (.io c) => some (.io c, c)
  | _ => none
theorem go_ownAt (i : Nat) : ownAt ρ i = kOA ρ[i]? := nr rfl
theorem kOA_ow (c : OC) : kOA (some (.ow c)) = some (.ow c, c) := nr rfl
theorem kOA_io (c : OC) : kOA (some (.io c)) = some (.io c, c) := nr rfl
def kLA (o : Option SV) : Option (SV × List T) := match o with
  | some (.ow (.lst ts)) => some (.ow (.lst ts), ts)
  | some (.io (.lst ts)) => some (.io (.lst ts), ts)
  | _ => none
theorem go_lstAt (i : Nat) : lstAt ρ i = kLA ρ[i]? := nr rfl
theorem kLA_ow (ts : List T) : kLA (some (.ow (.lst ts))) = some (.ow (.lst ts), ts) := nr rfl
theorem kLA_io (ts : List T) : kLA (some (.io (.lst ts))) = some (.io (.lst ts), ts) := nr rfl
def kAp (i : Nat) (f : M Vl) (ρ : R) (o : Option (SV × List T)) : Res Vl := match o with
  | some _ => bindR (f ρ) fun y ρ1 => match fixV ρ1 y with
    | some (t, ρ2) => appAt i t ρ2
    | none => .bot
  | none => .bot
def kAp2 (i : Nat) (r : Res Vl) : Res Vl := bindR r fun y ρ1 => match fixV ρ1 y with
  | some (t, ρ2) => appAt i t ρ2
  | none => .bot
def kAp3 (i : Nat) (o : Option (T × R)) : Res Vl := match o with
  | some (t, ρ2) => appAt i t ρ2
  | none => .bot
def cAp (i : Nat) (x : SV) (ts : List T) (t : T) (n : Nat) (ρ : R) : Res Vl := if n < 16777216 then .ok (.val .non) (ρ.set i (x.rep (.lst (ts ++ [t])))) else .bot
def kAp4 (i : Nat) (t : T) (ρ : R) (o : Option (SV × List T)) : Res Vl := match o with
  | some (x, ts) => cAp i x ts t ts.length ρ
  | none => .bot
theorem go_app (i : Nat) (f : M Vl) : eApp i f ρ = kAp i f ρ (lstAt ρ i) := nr rfl
theorem kAp_ok (i : Nat) (f : M Vl) (p : SV × List T) : kAp i f ρ (some p) = kAp2 i (f ρ) := nr rfl
theorem kAp2_ok (i : Nat) (y : Vl) : kAp2 i (.ok y ρ) = kAp3 i (fixV ρ y) := nr rfl
theorem kAp3_ok (i : Nat) (t : T) : kAp3 i (some (t, ρ)) = kAp4 i t ρ (lstAt ρ i) := by
  show appAt i t ρ = _
  unfold appAt kAp4
  rfl
theorem kAp4_ok (i : Nat) (t : T) (x : SV) (ts : List T) : kAp4 i t ρ (some (x, ts)) = cAp i x ts t ts.length ρ := nr rfl
def kSeq (g : S) (o : Out) : Out := match o with
  | .nx ρ1 => g ρ1
  | o => o
theorem go_seq (f g : S) : sSeq f g ρ = kSeq g (f ρ) := nr rfl
theorem kSeq_nx (g : S) : kSeq g (.nx ρ) = g ρ := nr rfl
theorem kSeq_rt (g : S) (x : Vl) : kSeq g (.rt x ρ) = .rt x ρ := nr rfl
theorem kSeq_ex (g : S) (C : Str) (fs : List (Str × T)) : kSeq g (.ex C fs ρ) = .ex C fs ρ := nr rfl
theorem kSeq_bk (g : S) : kSeq g (.bk ρ) = .bk ρ := nr rfl
theorem kSeq_ct (g : S) : kSeq g (.ct ρ) = .ct ρ := nr rfl
def kSt (f : Vl → S) (r : Res Vl) : Out := after r f
theorem go_set (i : Nat) (f : M Vl) : sSet i f ρ = kSt (putS i) (f ρ) := nr rfl
theorem kSt_ok (f : Vl → S) (x : Vl) : kSt f (.ok x ρ) = f x ρ := nr rfl
theorem kSt_ex (f : Vl → S) (C : Str) (fs : List (Str × T)) : kSt f (.ex C fs ρ) = .ex C fs ρ := nr rfl
theorem go_ret (f : M Vl) : sRet f ρ = kSt outV (f ρ) := nr rfl
theorem go_retN : sRetN ρ = .rt (.val .non) ρ := nr rfl
theorem go_nx : sNx ρ = .nx ρ := nr rfl
def kX (_ : Vl) : S := fun ρ => .nx ρ
theorem go_x (f : M Vl) : sX f ρ = kSt kX (f ρ) := nr rfl
theorem go_kX (x : Vl) : kX x ρ = .nx ρ := nr rfl
def kSIf (f g : S) (r : Res Bool) : Out := after r fun b ρ1 => if b = true then f ρ1 else g ρ1
theorem go_if (c : M Bool) (f g : S) : sIf c f g ρ = kSIf f g (c ρ) := nr rfl
theorem kSIf_t (f g : S) : kSIf f g (.ok true ρ) = f ρ := nr rfl
theorem kSIf_f (f g : S) : kSIf f g (.ok false ρ) = g ρ := nr rfl
theorem kSIf_ex (f g : S) (C : Str) (fs : List (Str × T)) : kSIf f g (.ex C fs ρ) = .ex C fs ρ := nr rfl
theorem out_val (t : T) : outV (.val t) ρ = .rt (.val t) ρ := nr rfl
theorem out_own (c : OC) : outV (.own c) ρ = .rt (.own c) ρ := nr rfl
def kOut (i : Nat) (ρ : R) (o : Option SV) : Out := match o with
  | some (.fz t) => .rt (.val t) ρ
  | some (.ow c) => .rt (.own c) (ρ.set i .no)
  | _ => .bot
theorem out_sl (i : Nat) : outV (.sl i) ρ = kOut i ρ ρ[i]? := nr rfl
theorem kOut_fz (i : Nat) (t : T) : kOut i ρ (some (.fz t)) = .rt (.val t) ρ := nr rfl
theorem kOut_ow (i : Nat) (c : OC) : kOut i ρ (some (.ow c)) = .rt (.own c) (ρ.set i .no) := nr rfl
def kPut (i : Nat) (x : Vl) (ρ : R) (o : Option SV) : Out := match o with
  | some y => if y.isIo = true then .bot else putV i x ρ
  | none => .bot
def cPut (i : Nat) (x : Vl) (ρ : R) (b : Bool) : Out := if b = true then .bot else putV i x ρ
theorem go_put (i : Nat) (x : Vl) : putS i x ρ = kPut i x ρ ρ[i]? := nr rfl
theorem kPut_ok (i : Nat) (x : Vl) (y : SV) : kPut i x ρ (some y) = cPut i x ρ y.isIo := nr rfl
theorem cPut_f (i : Nat) (x : Vl) : cPut i x ρ false = putV i x ρ := nr rfl
theorem putV_own (i : Nat) (c : OC) : putV i (.own c) ρ = .nx (ρ.set i (.ow c)) := nr rfl
theorem putV_val (i : Nat) (t : T) : putV i (.val t) ρ = .nx (ρ.set i (.fz t)) := nr rfl
def kPutF (i : Nat) (o : Option (T × R)) : Out := match o with
  | some (t, ρ1) => .nx (ρ1.set i (.fz t))
  | none => .bot
theorem putV_sl (i j : Nat) : putV i (.sl j) ρ = kPutF i (fixV ρ (.sl j)) := nr rfl
theorem kPutF_ok (i : Nat) (t : T) : kPutF i (some (t, ρ)) = .nx (ρ.set i (.fz t)) := nr rfl
def kGN (i : Nat) (t : T) (ρ : R) (o : Option SV) : Option R := match o with
  | some y => if y.isIo = true then none else some (ρ.set i (.fz t))
  | none => none
def cGN (i : Nat) (t : T) (ρ : R) (b : Bool) : Option R := if b = true then none else some (ρ.set i (.fz t))
theorem go_gN (i : Nat) (t : T) : gN i t ρ = kGN i t ρ ρ[i]? := nr rfl
theorem kGN_ok (i : Nat) (t : T) (y : SV) : kGN i t ρ (some y) = cGN i t ρ y.isIo := nr rfl
theorem cGN_f (i : Nat) (t : T) : cGN i t ρ false = some (ρ.set i (.fz t)) := nr rfl
def cGT (n m : Nat) (fs : List T → R → Option R) (ts : List T) (ρ : R) : Option R := if m = n then fs ts ρ else none
theorem go_gT (n : Nat) (fs : List T → R → Option R) (ts : List T) : gT n fs (.tup ts) ρ = cGT n ts.length fs ts ρ := nr rfl
theorem cGT_ok (n : Nat) (fs : List T → R → Option R) (ts : List T) : cGT n n fs ts ρ = fs ts ρ := if_pos rfl
theorem go_gn : gn [] ρ = some ρ := nr rfl
def kGc (fs : List T → R → Option R) (ts : List T) (o : Option R) : Option R := match o with
  | some ρ1 => fs ts ρ1
  | none => none
theorem go_gc (f : T → R → Option R) (fs : List T → R → Option R) (t : T) (ts : List T) : gc f fs (t :: ts) ρ = kGc fs ts (f t ρ) := nr rfl
theorem kGc_ok (fs : List T → R → Option R) (ts : List T) : kGc fs ts (some ρ) = fs ts ρ := nr rfl
def kTup (g : T → R → Option R) (x : Vl) : S := fun ρ1 => match fixV ρ1 x with
  | some (t, ρ2) => match g t ρ2 with
    | some ρ3 => .nx ρ3
    | none => .bot
  | none => .bot
def kTup2 (g : T → R → Option R) (o : Option (T × R)) : Out := match o with
  | some (t, ρ2) => match g t ρ2 with
    | some ρ3 => .nx ρ3
    | none => .bot
  | none => .bot
def kNx (o : Option R) : Out := match o with
  | some ρ3 => .nx ρ3
  | none => .bot
theorem go_tup (g : T → R → Option R) (f : M Vl) : sTup g f ρ = kSt (kTup g) (f ρ) := nr rfl
theorem go_kTup (g : T → R → Option R) (x : Vl) : kTup g x ρ = kTup2 g (fixV ρ x) := nr rfl
theorem kTup2_ok (g : T → R → Option R) (t : T) : kTup2 g (some (t, ρ)) = kNx (g t ρ) := nr rfl
theorem kNx_ok : kNx (some ρ) = .nx ρ := nr rfl
def kPar (i j : Nat) (r : Res (List Vl)) : Out := after r fun xs ρ1 => match fixA ρ1 xs with
  | some ([t, u], ρ2) => match gN i t ρ2 with
    | some ρ3 => match gN j u ρ3 with
      | some ρ4 => .nx ρ4
      | none => .bot
    | none => .bot
  | _ => .bot
def kPar2 (i j : Nat) (o : Option (List T × R)) : Out := match o with
  | some ([t, u], ρ2) => match gN i t ρ2 with
    | some ρ3 => match gN j u ρ3 with
      | some ρ4 => .nx ρ4
      | none => .bot
    | none => .bot
  | _ => .bot
def kPar3 (j : Nat) (u : T) (o : Option R) : Out := match o with
  | some ρ3 => match gN j u ρ3 with
    | some ρ4 => .nx ρ4
    | none => .bot
  | none => .bot
theorem go_par (i j : Nat) (as : M (List Vl)) : sPar i j as ρ = kPar i j (as ρ) := nr rfl
theorem kPar_ok (i j : Nat) (xs : List Vl) : kPar i j (.ok xs ρ) = kPar2 i j (fixA ρ xs) := nr rfl
theorem kPar2_ok (i j : Nat) (t u : T) : kPar2 i j (some ([t, u], ρ)) = kPar3 j u (gN i t ρ) := nr rfl
theorem kPar3_ok (j : Nat) (u : T) : kPar3 j u (some ρ) = kNx (gN j u ρ) := nr rfl
def kAug (g : T → T → Option Vl) (i : Nat) (f : M Vl) (ρ : R) (o : Option SV) : Out := match o with
  | some (.fz t) => after (f ρ) fun y ρ1 => match ap2 g (some t) (rdV ρ1 y) with
    | some z => putS i z ρ1
    | none => .bot
  | _ => .bot
def kAug2 (g : T → T → Option Vl) (i : Nat) (t : T) (r : Res Vl) : Out := after r fun y ρ1 => match ap2 g (some t) (rdV ρ1 y) with
  | some z => putS i z ρ1
  | none => .bot
def kAug3 (i : Nat) (ρ1 : R) (o : Option Vl) : Out := match o with
  | some z => putS i z ρ1
  | none => .bot
theorem go_aug (g : T → T → Option Vl) (i : Nat) (f : M Vl) : sAug g i f ρ = kAug g i f ρ ρ[i]? := nr rfl
theorem kAug_ok (g : T → T → Option Vl) (i : Nat) (f : M Vl) (t : T) : kAug g i f ρ (some (.fz t)) = kAug2 g i t (f ρ) := nr rfl
theorem kAug2_ok (g : T → T → Option Vl) (i : Nat) (t : T) (y : Vl) : kAug2 g i t (.ok y ρ) = kAug3 i ρ (ap2 g (some t) (rdV ρ y)) := nr rfl
theorem kAug3_ok (i : Nat) (z : Vl) : kAug3 i ρ (some z) = putS i z ρ := nr rfl
def kFor (h : T → R → Option R) (b : S) (r : Res (List T)) : Out := after r fun its ρ1 => forL h b its ρ1
theorem go_for (f : M (List T)) (h : T → R → Option R) (b : S) : sFor f h b ρ = kFor h b (f ρ) := nr rfl
theorem kFor_ok (h : T → R → Option R) (b : S) (its : List T) : kFor h b (.ok its ρ) = forL h b its ρ := nr rfl
def kIF (g : T → Option (List T)) (r : Res Vl) : Res (List T) := bindR r fun x ρ1 => match fixV ρ1 x with
  | some (t, ρ2) => opt (g t) ρ2
  | none => .bot
def kIF2 (g : T → Option (List T)) (o : Option (T × R)) : Res (List T) := match o with
  | some (t, ρ2) => opt (g t) ρ2
  | none => .bot
theorem go_iF (g : T → Option (List T)) (f : M Vl) : iF g f ρ = kIF g (f ρ) := nr rfl
theorem kIF_ok (g : T → Option (List T)) (x : Vl) : kIF g (.ok x ρ) = kIF2 g (fixV ρ x) := nr rfl
theorem kIF2_ok (g : T → Option (List T)) (t : T) : kIF2 g (some (t, ρ)) = opt (g t) ρ := nr rfl
def kIA (g : List T → Option (List T)) (r : Res (List Vl)) : Res (List T) := bindR r fun xs ρ1 => match fixA ρ1 xs with
  | some (ts, ρ2) => opt (g ts) ρ2
  | none => .bot
def kIA2 (g : List T → Option (List T)) (o : Option (List T × R)) : Res (List T) := match o with
  | some (ts, ρ2) => opt (g ts) ρ2
  | none => .bot
theorem go_iA (g : List T → Option (List T)) (a : M (List Vl)) : iA g a ρ = kIA g (a ρ) := nr rfl
theorem kIA_ok (g : List T → Option (List T)) (xs : List Vl) : kIA g (.ok xs ρ) = kIA2 g (fixA ρ xs) := nr rfl
theorem kIA2_ok (g : List T → Option (List T)) (ts : List T) : kIA2 g (some (ts, ρ)) = opt (g ts) ρ := nr rfl
theorem seqOf_lst (ts : List T) : seqOf (.lst ts) = some ts := nr rfl
theorem seqOf_lsk (ts : List T) : seqOf (.lsk ts) = some ts := nr rfl
theorem seqOf_tup (ts : List T) : seqOf (.tup ts) = some ts := nr rfl
theorem go_rg1 (j : Int) : rg1 [.int j] = if -(2 ^ 62) ≤ j ∧ j < 2 ^ 62 then some (rngT 0 1 j.toNat) else none := nr rfl
theorem go_rg2 (i j : Int) : rg2 [.int i, .int j] = if -(2 ^ 62) ≤ i ∧ i < 2 ^ 62 ∧ -(2 ^ 62) ≤ j ∧ j < 2 ^ 62 then some (rngT i 1 (j - i).toNat) else none := nr rfl
theorem go_rg3 (i j : Int) : rg3 [.int i, .int j, .int (-1)] = if -(2 ^ 62) ≤ i ∧ i < 2 ^ 62 ∧ -(2 ^ 62) ≤ j ∧ j < 2 ^ 62 then some (rngT i (-1) (i - j).toNat) else none := nr rfl
theorem go_enA (t : T) : enA [t] = match seqOf t with | some ts => some (enT ts) | none => none := nr rfl
theorem go_ziA (a b : T) : ziA [a, b] = match lstOf a, lstOf b with | some ts, some us => some (zipT ts us) | _, _ => none := nr rfl
def kLc (h : T → R → Option R) (c : M Bool) (e : M Vl) (vs : List Nat) (r : Res (List T)) : Res Vl := bindR r fun ts ρ1 => if noAt ρ1 vs = true then lcL h c e vs ts [] ρ1 else .bot
def cLc (h : T → R → Option R) (c : M Bool) (e : M Vl) (vs : List Nat) (ts : List T) (ρ1 : R) (b : Bool) : Res Vl := if b = true then lcL h c e vs ts [] ρ1 else .bot
theorem go_lc (its : M (List T)) (h : T → R → Option R) (c : M Bool) (e : M Vl) (vs : List Nat) : eLc its h c e vs ρ = kLc h c e vs (its ρ) := nr rfl
theorem kLc_ok (h : T → R → Option R) (c : M Bool) (e : M Vl) (vs : List Nat) (ts : List T) : kLc h c e vs (.ok ts ρ) = cLc h c e vs ts ρ (noAt ρ vs) := nr rfl
theorem cLc_t (h : T → R → Option R) (c : M Bool) (e : M Vl) (vs : List Nat) (ts : List T) : cLc h c e vs ts ρ true = lcL h c e vs ts [] ρ := nr rfl
def kPI (i : Nat) (g : M Vl) (x : Vl) : S := fun ρ1 => match fixV ρ1 x with
  | some (t, ρ2) => match lstAt ρ2 i with
    | some _ => after (g ρ2) fun y ρ3 => match rdV ρ3 y with
      | some (.int k) => match lstAt ρ3 i with
        | some (z, ts) => match ixN ts.length k with
          | some j => .nx (ρ3.set i (z.rep (.lst (ts.set j t))))
          | none => .bot
        | none => .bot
      | _ => .bot
    | none => .bot
  | none => .bot
def kPI2 (i : Nat) (g : M Vl) (o : Option (T × R)) : Out := match o with
  | some (t, ρ2) => match lstAt ρ2 i with
    | some _ => after (g ρ2) fun y ρ3 => match rdV ρ3 y with
      | some (.int k) => match lstAt ρ3 i with
        | some (z, ts) => match ixN ts.length k with
          | some j => .nx (ρ3.set i (z.rep (.lst (ts.set j t))))
          | none => .bot
        | none => .bot
      | _ => .bot
    | none => .bot
  | none => .bot
def kPI3 (i : Nat) (g : M Vl) (t : T) (ρ2 : R) (o : Option (SV × List T)) : Out := match o with
  | some _ => after (g ρ2) fun y ρ3 => match rdV ρ3 y with
    | some (.int k) => match lstAt ρ3 i with
      | some (z, ts) => match ixN ts.length k with
        | some j => .nx (ρ3.set i (z.rep (.lst (ts.set j t))))
        | none => .bot
      | none => .bot
    | _ => .bot
  | none => .bot
def kPI4 (i : Nat) (t : T) (r : Res Vl) : Out := after r fun y ρ3 => match rdV ρ3 y with
  | some (.int k) => match lstAt ρ3 i with
    | some (z, ts) => match ixN ts.length k with
      | some j => .nx (ρ3.set i (z.rep (.lst (ts.set j t))))
      | none => .bot
    | none => .bot
  | _ => .bot
def kPI5 (i : Nat) (t : T) (ρ3 : R) (o : Option T) : Out := match o with
  | some (.int k) => match lstAt ρ3 i with
    | some (z, ts) => match ixN ts.length k with
      | some j => .nx (ρ3.set i (z.rep (.lst (ts.set j t))))
      | none => .bot
    | none => .bot
  | _ => .bot
def kPI6 (i : Nat) (t : T) (k : Int) (ρ3 : R) (o : Option (SV × List T)) : Out := match o with
  | some (z, ts) => match ixN ts.length k with
    | some j => .nx (ρ3.set i (z.rep (.lst (ts.set j t))))
    | none => .bot
  | none => .bot
def kPI7 (i : Nat) (t : T) (z : SV) (ts : List T) (ρ3 : R) (o : Option Nat) : Out := match o with
  | some j => .nx (ρ3.set i (z.rep (.lst (ts.set j t))))
  | none => .bot
theorem go_putIx (i : Nat) (f g : M Vl) : sPutIx i f g ρ = kSt (kPI i g) (f ρ) := nr rfl
theorem go_kPI (i : Nat) (g : M Vl) (x : Vl) : kPI i g x ρ = kPI2 i g (fixV ρ x) := nr rfl
theorem kPI2_ok (i : Nat) (g : M Vl) (t : T) : kPI2 i g (some (t, ρ)) = kPI3 i g t ρ (lstAt ρ i) := nr rfl
theorem kPI3_ok (i : Nat) (g : M Vl) (t : T) (p : SV × List T) : kPI3 i g t ρ (some p) = kPI4 i t (g ρ) := nr rfl
theorem kPI4_ok (i : Nat) (t : T) (y : Vl) : kPI4 i t (.ok y ρ) = kPI5 i t ρ (rdV ρ y) := nr rfl
theorem kPI5_ok (i : Nat) (t : T) (k : Int) : kPI5 i t ρ (some (.int k)) = kPI6 i t k ρ (lstAt ρ i) := nr rfl
theorem kPI6_ok (i : Nat) (t : T) (k : Int) (z : SV) (ts : List T) : kPI6 i t k ρ (some (z, ts)) = kPI7 i t z ts ρ (ixN ts.length k) := nr rfl
theorem kPI7_ok (i : Nat) (t : T) (z : SV) (ts : List T) (j : Nat) : kPI7 i t z ts ρ (some j) = .nx (ρ.set i (z.rep (.lst (ts.set j t)))) := nr rfl
def kD (i : R → Option OC) (o : Out) : FR := noX (endF o i)
def kNo (_ : R) : Option OC := none
theorem go_runD (m n : Nat) (b : S) (ts : List T) (h : ts.length = m) : noX (runD m n b ts) = kD kNo (b (fzs ts ++ List.replicate (n - m) .no)) := by
  unfold runD
  rw [if_pos h]
  rfl
theorem go_runI (m n : Nat) (b : S) (c : OC) (ts : List T) (h : ts.length + 1 = m) : noX (runI m n b c ts) = kD io0 (b (.io c :: (fzs ts ++ List.replicate (n - m) .no))) := by
  unfold runI
  rw [if_pos h]
  rfl
theorem kD_nx (i : R → Option OC) : kD i (.nx ρ) = .ok (.val .non) (i ρ) := nr rfl
theorem kD_val (i : R → Option OC) (t : T) : kD i (.rt (.val t) ρ) = .ok (.val t) (i ρ) := nr rfl
theorem kD_own (i : R → Option OC) (c : OC) : kD i (.rt (.own c) ρ) = .ok (.own c) (i ρ) := nr rfl
theorem go_kNo : kNo ρ = none := nr rfl
theorem go_io0 (c : OC) (ρ : R) : io0 (.io c :: ρ) = some c := nr rfl
theorem oIx_lst (ts : List T) (i : Int) : oIx (.lst ts) (.int i) = atT ts i := nr rfl
theorem oIx_lsk (ts : List T) (i : Int) : oIx (.lsk ts) (.int i) = atT ts i := nr rfl
theorem oIx_tup (ts : List T) (i : Int) : oIx (.tup ts) (.int i) = atT ts i := nr rfl
theorem oNeg_int (i : Int) : oNeg (.int i) = some (.val (.int (-i))) := nr rfl
theorem isB_bl (b : Bool) : isB (.bl b) = some b := nr rfl
theorem forL_cons {h : T → R → Option R} {b : S} {t : T} {ts : List T} {ρ ρ1 ρ2 : R} (e1 : h t ρ = some ρ1) (e2 : b ρ1 = .nx ρ2) : forL h b (t :: ts) ρ = forL h b ts ρ2 := by
  conv => lhs; unfold forL
  rw [e1]
  dsimp only
  rw [e2]
theorem at40 (a b c d : T) : atT [a, b, c, d] 0 = some (.val a) := nr rfl
theorem at41 (a b c d : T) : atT [a, b, c, d] 1 = some (.val b) := nr rfl
theorem at42 (a b c d : T) : atT [a, b, c, d] 2 = some (.val c) := nr rfl
theorem at43 (a b c d : T) : atT [a, b, c, d] 3 = some (.val d) := nr rfl
theorem cst0 : ((0 : Nat) : Int) = 0 := nr rfl
theorem cst1 : ((1 : Nat) : Int) = 1 := nr rfl
theorem cst2 : ((2 : Nat) : Int) = 2 := nr rfl
theorem cst3 : ((3 : Nat) : Int) = 3 := nr rfl
theorem cst4 : ((4 : Nat) : Int) = 4 := nr rfl
theorem cst5 : ((5 : Nat) : Int) = 5 := nr rfl
theorem cst6 : ((6 : Nat) : Int) = 6 := nr rfl
theorem cst7 : ((7 : Nat) : Int) = 7 := nr rfl
def kL1 (c : M Bool) (e : M Vl) (vs : List Nat) (o : Option R) : Option (Option T × R) := match o with
  | some ρ1 => match c ρ1 with
    | .ok k ρ2 => if k = true then (match e ρ2 with
      | .ok x ρ3 => match fixV ρ3 x with
        | some (u, ρ4) => match wipeR vs ρ4 with
          | some ρ5 => some (some u, ρ5)
          | none => none
        | none => none
      | _ => none) else (match wipeR vs ρ2 with
        | some ρ5 => some (none, ρ5)
        | none => none)
    | _ => none
  | none => none
def kL2 (e : M Vl) (vs : List Nat) (r : Res Bool) : Option (Option T × R) := match r with
  | .ok k ρ2 => if k = true then (match e ρ2 with
    | .ok x ρ3 => match fixV ρ3 x with
      | some (u, ρ4) => match wipeR vs ρ4 with
        | some ρ5 => some (some u, ρ5)
        | none => none
      | none => none
    | _ => none) else (match wipeR vs ρ2 with
      | some ρ5 => some (none, ρ5)
      | none => none)
  | _ => none
def kL3 (vs : List Nat) (r : Res Vl) : Option (Option T × R) := match r with
  | .ok x ρ3 => match fixV ρ3 x with
    | some (u, ρ4) => match wipeR vs ρ4 with
      | some ρ5 => some (some u, ρ5)
      | none => none
    | none => none
  | _ => none
def kL4 (vs : List Nat) (o : Option (T × R)) : Option (Option T × R) := match o with
  | some (u, ρ4) => match wipeR vs ρ4 with
    | some ρ5 => some (some u, ρ5)
    | none => none
  | none => none
def kL5 (u : Option T) (o : Option R) : Option (Option T × R) := match o with
  | some ρ5 => some (u, ρ5)
  | none => none
theorem go_lc1 (h : T → R → Option R) (c : M Bool) (e : M Vl) (vs : List Nat) (t : T) : lc1 h c e vs t ρ = kL1 c e vs (h t ρ) := nr rfl
theorem kL1_ok (c : M Bool) (e : M Vl) (vs : List Nat) : kL1 c e vs (some ρ) = kL2 e vs (c ρ) := nr rfl
theorem kL2_t (e : M Vl) (vs : List Nat) : kL2 e vs (.ok true ρ) = kL3 vs (e ρ) := nr rfl
theorem kL2_f (e : M Vl) (vs : List Nat) : kL2 e vs (.ok false ρ) = kL5 none (wipeR vs ρ) := nr rfl
theorem kL3_ok (vs : List Nat) (x : Vl) : kL3 vs (.ok x ρ) = kL4 vs (fixV ρ x) := nr rfl
theorem kL4_ok (vs : List Nat) (u : T) : kL4 vs (some (u, ρ)) = kL5 (some u) (wipeR vs ρ) := nr rfl
theorem kL5_ok (u : Option T) : kL5 u (some ρ) = some (u, ρ) := nr rfl
theorem go_tY : tY ρ = .ok true ρ := nr rfl
def kW (v : Nat) (o : Option R) : Option R := match o with
  | some ρ1 => match ρ1[v]? with
    | some (.io _) => none
    | _ => some (ρ1.set v .no)
  | none => none
def kW2 (v : Nat) (ρ1 : R) (o : Option SV) : Option R := match o with
  | some (.io _) => none
  | _ => some (ρ1.set v .no)
theorem wp_nil : wipeR [] ρ = some ρ := nr rfl
theorem wp_cons (v : Nat) (vs : List Nat) : wipeR (v :: vs) ρ = kW v (wipeR vs ρ) := nr rfl
theorem kW_ok (v : Nat) : kW v (some ρ) = kW2 v ρ ρ[v]? := nr rfl
theorem kW2_fz (v : Nat) (t : T) : kW2 v ρ (some (.fz t)) = some (ρ.set v .no) := nr rfl
theorem kW2_no (v : Nat) : kW2 v ρ (some .no) = some (ρ.set v .no) := nr rfl
theorem kW2_ow (v : Nat) (c : OC) : kW2 v ρ (some (.ow c)) = some (ρ.set v .no) := nr rfl
end
end MX
set_option Elab.async false
set_option linter.all false
set_option maxRecDepth 100000
set_option maxHeartbeats 4000000
namespace MX
open PySem PySem.Spec PyProof.Rows L2 GX
section
variable [TabL] {K : PySem.W.Frag} {E : XS} {B : Bs} {G G1 H H1 : Hp} {σ : L2.St} {ρ : R}
def inT : List T → Option (List Int)
  | [] => some []
  | .int i :: ts => match inT ts with
    | some ns => some (i :: ns)
    | none => none
  | _ => none
theorem inT_iT : ∀ ns : List Int, inT (iT ns) = some ns
  | [] => rfl
  | n :: ns => by
    show inT (.int n :: iT ns) = _
    unfold inT
    rw [inT_iT ns]
end
end MX
set_option Elab.async false
set_option linter.all false
set_option maxRecDepth 100000
set_option maxHeartbeats 4000000
namespace GX
open PySem PySem.Spec PyProof.Rows L2 LamX
def empO : Obj := { cls := .none, data := .fields #[] }
/-- the script and the tables in an abstract heap -/
structure AtT (K : PySem.W.Frag) (P : Program) (w : World) (g : Heap) (tt : List Addr) (a : Addr) (ns : List Int) (H : Hp) : Prop where
  tab : ∀ p ∈ tt, H p = some (.tbl #[])
  only : ∀ b, b ∉ tt → H b = none ∨ ∃ o xs, H b = some (.frz o (.lst xs))
  sq : SqL K H a (ns.map V.int)
  ok : HOk P w H g
  one : ∀ b u, H b = some u → b = a ∨ b ∈ tt
  out : ∀ u, H a = some u → K.lookup a = none
section
variable {P : Program} {w : World} {K : PySem.W.Frag} {mg mb : Str → Option Value} {CX : CXT} {k : Nat} {fa a : Addr} {fd : FuncData} {x : Str} {sp : Sp} {s₁ : Shared} {vs : List Value} {ns : List Int} {tt : List Addr} {cs : List (Addr × Addr)}
theorem atT_ex (KX : K.In s₁.heap) (hT : ∀ p ∈ tt, s₁.heap.get? p = some empO) (ha : s₁.heap.get? a = some { cls := .type "list", data := .seq vs.toArray }) (hi : IntsAre vs ns) (hl : ns.length ≤ sizeLine) : ∃ H, AtT K P w s₁.heap tt a ns H := by
  obtain ⟨H0, Z⟩ := at0_ex (P := P) (w := w) KX ha hi hl
  have na : a ∉ tt := fun z => by
    have q := hT a z
    rw [ha] at q
    cases (Option.some.inj q)
  have n0 : ∀ b, b ∈ tt → H0 b = none := fun b hb => by
    cases q : H0 b with
    | none => rfl
    | some u => exact absurd hb (by rw [Z.one b u q]; exact na)
  have inT : ∀ {b : Addr}, b ∈ tt → (if b ∈ tt then some (HO.tbl #[]) else H0 b) = some (.tbl #[]) := fun hb => if_pos hb
  have outT : ∀ {b : Addr}, b ∉ tt → (if b ∈ tt then some (HO.tbl #[]) else H0 b) = H0 b := fun hb => if_neg hb
  have sub : Same H0 (fun b => if b ∈ tt then some (.tbl #[]) else H0 b) := fun b u e => by
    have nb : b ∉ tt := fun z => by
      rw [n0 b z] at e
      cases e
    exact (outT nb).trans e
  refine ⟨fun b => if b ∈ tt then some (.tbl #[]) else H0 b, fun p hp => inT hp, fun b nb => ?_, sub.seq Z.sq, fun b u e => ?_, fun b u e => ?_, fun u e => Z.out u ((outT na).symm.trans e)⟩
  · have h1 := Z.only b
    rw [show (if b ∈ tt then some (HO.tbl #[]) else H0 b) = H0 b from outT nb]
    exact h1
  · by_cases hb : b ∈ tt
    · have e2 := (inT hb).symm.trans e
      cases e2
      exact hT b hb
    · have e2 : H0 b = some u := (outT hb).symm.trans e
      rcases Z.only b with z | ⟨ob, xs, z⟩
      · rw [z] at e2
        cases e2
      · rw [z] at e2
        cases e2
        exact Z.ok b _ z
  · by_cases hb : b ∈ tt
    · exact .inr hb
    · exact .inl (Z.one b u ((outT hb).symm.trans e))
end
/-- the makers of lambdas, their code objects and tables -/
def mkIn (K : PySem.W.Frag) (q : Program) (mk : List (Str × Addr × Addr)) : Prop := ∀ r ∈ mk, PySem.W.tabIn K r.1 = some r.2 ∧ K.lookup r.2.2 = none ∧ ∃ d, (recsOf q).find? (fun e => e.name == r.1) = some d
end GX
set_option Elab.async false
set_option linter.all false
set_option maxRecDepth 100000
set_option maxHeartbeats 4000000
namespace MX
open PySem PySem.Spec PyProof.Rows L2 GX
/-- the heap without the tables -/
def noTbl (H : Hp) : Hp := fun b => match H b with
  | some (.tbl _) => none
  | o => o
theorem noTbl_same (H : Hp) : Same (noTbl H) H := fun b o e => by
  unfold noTbl at e
  split at e
  · cases e
  · exact e
theorem noTbl_at {H : Hp} {b : Addr} {o : HO} (e : H b = some o) (h : ∀ ps, o ≠ .tbl ps) : noTbl H b = some o := by
  unfold noTbl
  split
  · next ps e2 =>
    rw [e] at e2
    cases e2
    exact absurd rfl (h ps)
  · exact e
theorem noTbl_nt (H : Hp) : ∀ a ps, noTbl H a ≠ some (.tbl ps) := fun a ps e => by
  unfold noTbl at e
  split at e
  · cases e
  · next h => exact h ps e
theorem noTbl_sq {K : PySem.W.Frag} {H : Hp} {a : Addr} {xs : List V} (h : SqL K H a xs) : SqL K (noTbl H) a xs := by
  rcases h with h | h
  · refine .inl ?_
    rcases h with h | ⟨o, h⟩
    · exact .inl (noTbl_at h fun _ z => by cases z)
    · exact .inr ⟨o, noTbl_at h fun _ z => by cases z⟩
  · exact .inr h
theorem tabs_of {l : List (Addr × Str)} {H : Hp} (h : ∀ p ∈ l, H p.1 = some (.tbl #[])) : LamX.Tabs l H := fun p hp => ⟨#[], h p hp, by simp [TriplesOk], fun pos cv e => by simp [codeAmong] at e⟩
theorem law_spT [TabL] {K : PySem.W.Frag} {d : List T → FR} {H : Hp} {a : Addr} {ns : List Int} {E : XK} (e : d [.lsk (iT ns)] = .ok (.val (.bl true)) none) (hT : ∀ p ∈ TabL.tabs, H p.1 = some (.tbl #[])) (hS : SqL K H a (ns.map V.int)) (hF : TabL.inv (noTbl H) := by exact True.intro) : spM K d [.ref a] H (fun v _ => v = .bl true) E := by
  refine ⟨noTbl H, [.lsk (iT ns)], noTbl_same H, ⟨tabs_of hT, ⟨noTbl_nt H, hF⟩⟩, .cons (.lsk (noTbl_sq hS) (Reps.ints ns)) .nil, ?_⟩
  rw [e]
  intro v G' H' _ _ q
  cases q
  rfl
theorem all_cons {α : Type} {p : α → Prop} {x : α} {xs : List α} (h : p x) (k : ∀ y ∈ xs, p y) : ∀ y ∈ x :: xs, p y := fun y hy => by
  rcases List.mem_cons.mp hy with rfl | hy
  · exact h
  · exact k y hy
theorem all_nil {α : Type} {p : α → Prop} : ∀ y ∈ ([] : List α), p y := fun y hy => absurd hy (by simp)
end MX
set_option Elab.async false
set_option linter.all false
set_option maxRecDepth 100000
set_option maxHeartbeats 4000000
theorem L2H.RoomH.units {k : Nat} {A : PySem.Around} (r : L2H.RoomH k A) : A.units + 64 < PySem.cLine := by have := r.un; omega
namespace GX
open PySem PySem.Spec PyProof.Rows L2
/-- the base knows sys.modules, a dict -/
def SysB (h : Heap) : Prop := ∃ (o : Obj) (es : Array DictEntry) (n : Nat), h.get? sysModules = some o ∧ o.data = .dict es n
mutual
inductive De (K : PySem.W.Frag) (H : Hp) : V → PyData → Prop
  | non : De K H .non .none
  | bl (b : Bool) : De K H (.bl b) (.bool b)
  | int (i : Int) : De K H (.int i) (.int i)
  | str (x : Str) : De K H (.str x) (.str x)
  | lst {a : Addr} {xs : List V} {ds : List PyData} : SqL K H a xs → DeAll K H xs ds → De K H (.ref a) (.list ds)
  | tup {a : Addr} {xs : List V} {ds : List PyData} : SqT K H a xs → DeAll K H xs ds → De K H (.ref a) (.tuple ds)
  | edc {a : Addr} : H a = some (.dK []) → De K H (.ref a) (.dict [])
  | dct {a : Addr} {kvs : List (Key × Int)} : H a = some (.dK (kvs.map fun p => (p.1, V.int p.2))) → De K H (.ref a) (.dict (kvs.map fun p => (keyD p.1, PyData.int p.2)))
inductive DeAll (K : PySem.W.Frag) (H : Hp) : List V → List PyData → Prop
  | nil : DeAll K H [] []
  | cons {v : V} {vs : List V} {d : PyData} {ds : List PyData} : De K H v d → DeAll K H vs ds → DeAll K H (v :: vs) (d :: ds)
end
section
variable {X : Cx} {pins : List (Addr × Obj)} {σ : L2.St} {H : Hp} {s : Shared}
mutual
theorem De.reads (I : Inv X pins σ H s) (B : SysB X.base) : ∀ {v : V} {d : PyData} (u : Value), De X.K H v d → RelV v u → ∃ as, Reads s.heap u d as ∧ sysModules ∉ as
  | _, _, _, .non, r => by
    cases r
    exact ⟨_, Reads.none, by simp⟩
  | _, _, _, .bl b, r => by
    cases r
    exact ⟨_, Reads.bool b, by simp⟩
  | _, _, _, .int i, r => by
    obtain ⟨t, rfl⟩ := r
    exact ⟨_, Reads.int i t, by simp⟩
  | _, _, _, .str x, r => by
    obtain ⟨t, rfl⟩ := r
    exact ⟨_, Reads.str x t, by simp⟩
  | _, _, _, .lst hs ha, r => by
    cases r
    obtain ⟨its, rv, ⟨o, n, ho, hc, _, hd⟩, _⟩ := I.list hs
    obtain ⟨as, hr, hn⟩ := DeAll.reads I B its ha rv
    refine ⟨_, Reads.list ho hc hd hr, fun hm => ?_⟩
    rcases List.mem_cons.mp hm with e | hm
    · obtain ⟨o2, es, n2, e2, d2⟩ := B
      have := I.bk _ _ e2
      rw [e, ho] at this
      cases this
      rw [hd] at d2
      cases d2
    · exact hn hm
  | _, _, _, .tup hs ha, r => by
    cases r
    obtain ⟨its, rv, ⟨o, ho, hc, n, hd⟩, _⟩ := I.tuple hs
    obtain ⟨as, hr, hn⟩ := DeAll.reads I B its ha rv
    exact ⟨_, Reads.tuple ho hc hd hr, hn⟩
  | _, _, _, .edc (a := a) h, r => by
    cases r
    obtain ⟨_, nsys, vs, kv, o, es, ep, h1, h2, h3, _, h5, _⟩ := (show ObjOk X.prog X.w H s.heap a (.dK _) from I.hok a _ h)
    obtain ⟨⟨as, A1, A2⟩, ⟨bs, B1, B2⟩⟩ := reads_keys (kvs := []) (h := s.heap) kv h5
    refine ⟨_, .dict h1 h2.1 h3 A1 B1, fun hm => ?_⟩
    rcases List.mem_append.mp hm with hm | hm
    · rcases List.mem_cons.mp hm with e | hm
      · rw [← e] at nsys
        simp at nsys
      · exact A2 hm
    · exact B2 hm
  | _, _, _, .dct (a := a) (kvs := kvs) h, r => by
    cases r
    obtain ⟨_, nsys, vs, kv, o, es, ep, h1, h2, h3, _, h5, _⟩ := (show ObjOk X.prog X.w H s.heap a (.dK _) from I.hok a _ h)
    obtain ⟨⟨as, A1, A2⟩, ⟨bs, B1, B2⟩⟩ := reads_keys (kvs := kvs) (h := s.heap) kv h5
    refine ⟨_, .dict h1 h2.1 h3 A1 B1, fun hm => ?_⟩
    rcases List.mem_append.mp hm with hm | hm
    · rcases List.mem_cons.mp hm with e | hm
      · rw [← e] at nsys
        simp at nsys
      · exact A2 hm
    · exact B2 hm
theorem DeAll.reads (I : Inv X pins σ H s) (B : SysB X.base) : ∀ {vs : List V} {ds : List PyData} (us : List Value), DeAll X.K H vs ds → Vals vs us → ∃ as, ReadsAll s.heap us ds as ∧ sysModules ∉ as
  | _, _, _, .nil, r => by
    cases r
    exact ⟨_, ReadsAll.nil, by simp⟩
  | _, _, _, .cons h1 h2, r => by
    cases r with
    | cons r1 r2 =>
      obtain ⟨as, q1, n1⟩ := De.reads I B _ h1 r1
      obtain ⟨bs, q2, n2⟩ := DeAll.reads I B _ h2 r2
      exact ⟨_, ReadsAll.cons q1 q2, fun hm => (List.mem_append.mp hm).elim n1 n2⟩
end
end
def rReprE (K : PySem.W.Frag) : List V → Hp → VK → Prop := fun xs H Q =>
  ∃ (x : V) (d : PyData), xs = [x] ∧ De K H x d ∧ d.showable = true ∧ d.depth ≤ 100 ∧ d.shown.length ≤ sizeLine ∧ Q (.str d.shown) H
theorem call_reprE {X : Cx} (B : SysB X.base) (hG : X.A.guards = some []) (hu : X.A.units + 110 < cLine) : CallR X (.builtin "repr") (rReprE X.K) := by
  intro pins s σ H xs us Q I r h
  obtain ⟨x, d, rfl, hs, h1, h2, h3, q⟩ := h
  obtain ⟨u, rfl, r1⟩ : ∃ u, us = [u] ∧ RelV x u := by
    cases r with
    | cons a b =>
      cases b
      exact ⟨_, rfl, a⟩
  obtain ⟨as, R, sys⟩ := hs.reads I B _ r1
  have fin : ∀ h' (u : Tok) tk, (∀ b o, s.heap.get? b = some o → h'.get? b = some o) → EP X pins σ Q (.str d.shown u) { s with heap := h', toks := tk } :=
    fun h' u tk k => ⟨.str d.shown, H, I.kept (t' := tk) k, ⟨u, rfl⟩, q⟩
  cases R with
  | none => exact PySem.P.repr_of_none (fin s.heap s.toks _ (fun _ _ z => z))
  | bool b => exact PySem.P.repr_of_bool (fin s.heap s.toks _ (fun _ _ z => z))
  | int i t => exact PySem.P.repr_of_int (by simpa [PyData.showable] using h1) (fin s.heap s.toks _ (fun _ _ z => z))
  | str y t => exact PySem.P.repr_of_str (fin s.heap s.toks _ (fun _ _ z => z)) h3
  | list a1 a2 a3 a4 => exact repr_of_reads' (.list a1 a2 a3 a4) h1 (fun _ => sys) hG (by omega) (fun _ _ z => z) fin h3
  | tuple a1 a2 a3 a4 => exact repr_of_reads' (.tuple a1 a2 a3 a4) h1 (fun _ => sys) hG (by omega) (fun _ _ z => z) fin h3
  | dict a1 a2 a3 a4 a5 => exact repr_of_reads' (.dict a1 a2 a3 a4 a5) h1 (fun _ => sys) hG (by omega) (fun _ _ z => z) fin h3
end GX
namespace MX
open PySem PySem.Spec PyProof.Rows L2 GX
section
variable [TabL] {K : PySem.W.Frag} {B : Bs} {G G1 H H1 : Hp} {σ : L2.St} {ρ : R}
/-- a dict of ints -/
def toKI : List (Key × T) → Option (List (Key × Int))
  | [] => some []
  | (k, .int i) :: r => match toKI r with
    | some ks => some ((k, i) :: ks)
    | none => none
  | _ => none
theorem toKI_ok : ∀ {kvs : List (Key × V)} {gs : List (Key × T)} {ks : List (Key × Int)}, RepD K G kvs gs → toKI gs = some ks → kvs = ks.map fun p => (p.1, V.int p.2)
  | _, _, _, .nil, e => by
    cases e
    rfl
  | _, _, _, .cons (x := k) r rs, e => by
    cases r with
    | int i =>
      unfold toKI at e
      split at e
      · next ks h =>
        cases e
        rw [toKI_ok rs h]
        rfl
      · cases e
    | _ => cases e
mutual
/-- as data, dicts of ints too -/
def toE : T → Option PyData
  | .non => some .none
  | .bl b => some (.bool b)
  | .int i => some (.int i)
  | .str x => some (.str x)
  | .edc => some (.dict [])
  | .dct gs => match toKI gs with
    | some ks => some (.dict (ks.map fun p => (keyD p.1, .int p.2)))
    | none => none
  | .tup ts => match toEs ts with
    | some ds => some (.tuple ds)
    | none => none
  | .lst ts => match toEs ts with
    | some ds => some (.list ds)
    | none => none
  | _ => none
def toEs : List T → Option (List PyData)
  | [] => some []
  | t :: ts => match toE t, toEs ts with
    | some d, some ds => some (d :: ds)
    | _, _ => none
end
mutual
theorem toE_ok (s : Same G H) : ∀ {v : V} {t : T} {d : PyData}, Rep K G v t → toE t = some d → De K H v d
  | _, _, _, .non, e => by cases e; exact .non
  | _, _, _, .bl b, e => by cases e; exact .bl b
  | _, _, _, .int b, e => by cases e; exact .int b
  | _, _, _, .str b, e => by cases e; exact .str b
  | _, _, _, .edc h, e => by cases e; exact .edc (s _ _ h)
  | _, _, _, .ty _, e => by cases e
  | _, _, _, .adr _, e => by cases e
  | _, _, _, .lsk _ _, e => by cases e
  | _, _, _, .obj _ _, e => by cases e
  | _, _, _, .cls _, e => by cases e
  | _, .dct gs, _, .dct S r, e => by
    unfold toE at e
    split at e
    · next ks hk =>
      cases e
      have S' := s _ _ S
      rw [toKI_ok r hk] at S'
      exact .dct S'
    · cases e
  | _, .tup ts, _, .tup S r, e => by
    unfold toE at e
    split at e
    · next ds hd =>
      cases e
      exact .tup (seqT s S) (toEs_ok s r hd)
    · cases e
  | _, .lst ts, _, .lst S r, e => by
    unfold toE at e
    split at e
    · next ds hd =>
      cases e
      exact .lst (SqL.of (s _ _ S)) (toEs_ok s r hd)
    · cases e
theorem toEs_ok (s : Same G H) : ∀ {v : List V} {t : List T} {d : List PyData}, Reps K G v t → toEs t = some d → DeAll K H v d
  | _, _, _, .nil, e => by cases e; exact .nil
  | _, _, _, .cons r rs, e => by
    unfold toEs at e
    split at e
    · next d ds h1 h2 =>
      cases e
      exact .cons (toE_ok s r h1) (toEs_ok s rs h2)
    · cases e
end
theorem vwE {v : V} {t : T} {d : PyData} (s : Same G H) (h : Vw K G H v t) (e : toE t = some d) : De K H v d := by
  cases h with
  | fz r => exact toE_ok s r e
  | own e1 r =>
    cases r with
    | lst r =>
      rw [show OC.fix (.lst _) = T.lst _ from rfl] at e
      unfold toE at e
      split at e
      · next ds hd =>
        cases e
        exact .lst (SqL.of e1) (toEs_ok s r hd)
      · cases e
    | ins r => cases e
    | dct r =>
      rw [show OC.fix (.dct _) = T.dct _ from rfl] at e
      unfold toE at e
      split at e
      · next ks hk =>
        cases e
        rw [toKI_ok r hk] at e1
        exact .dct e1
      · cases e
def bReprE : List T → Option Vl
  | [t] => match toE t with
    | some d => if d.showable = true ∧ d.depth ≤ 100 ∧ d.shown.length ≤ 16777216 then some (.val (.str d.shown)) else none
    | none => none
  | _ => none
theorem cm_reprE : CallM K (rReprE K) bReprE := fun B G H σ ρ vs ts z Q h r e q => by
  unfold bReprE at e
  split at e
  · next t =>
    split at e
    · next d hd =>
      split at e
      · next hc =>
        cases e
        cases r with
        | cons a r =>
          cases r
          have hz := sizeLine_eq
          exact ⟨_, d, rfl, vwE h.sub a hd, hc.1, hc.2.1, by rw [hz]; exact hc.2.2, q _ _ _ (Same.refl G) h (.str _)⟩
      · cases e
    · cases e
  · cases e
theorem reprE_ok {t : T} {d : PyData} (e : toE t = some d) (h : d.showable = true ∧ d.depth ≤ 100 ∧ d.shown.length ≤ 16777216) : bReprE [t] = some (.val (.str d.shown)) := by
  unfold bReprE
  simp only [e, h, and_self, if_true]
def eDcK1 (k : Key) (t : T) : M Vl := fun ρ => .ok (.val (.dct [(k, t)])) ρ
theorem me_dcK1 {E : XS} {k : Key} {v : V} {t : T} (r : ∀ G, Rep K G v t) : ME K E (tDisp [(tC (L2.kV k), tC v)]) (eDcK1 k t) := fun B G H σ ρ Q h w p hp => by
  refine ⟨upd_same, [(k, v)], rfl, (by show 1 ≤ 15; decide), ?_⟩
  have e : upd (upd H p (.dK [])) p (.dK (mergeK [] [(k, v)])) = upd H p (.dK [(k, v)]) := by
    funext b
    by_cases c : b = p
    · rw [c, upd_same, upd_same]
      rfl
    · rw [upd_ne c, upd_ne c, upd_ne c]
  rw [e]
  refine w (.ref p) _ _ (same_new (h.sub.free hp)) (h.laid (o := .dK [(k, v)]) hp fun _ z => by cases z) ?_
  have : Rep K (upd G p (.dK [(k, v)])) (.ref p) (.dct [(k, t)]) := .dct upd_same (.cons (r _) .nil)
  exact this
theorem go_dcK1 {k : Key} {t : T} : eDcK1 k t ρ = .ok (.val (.dct [(k, t)])) ρ := nrk rfl
def eLRg (f : M Vl) : M Vl := fun ρ => bindR (f ρ) fun x ρ1 => match rdV ρ1 x with
  | some (.int n) => if -(2 ^ 62) ≤ n ∧ n ≤ 1000000 then .ok (.own (.lst (rngT 0 1 n.toNat))) ρ1 else .bot
  | _ => .bot
def kLR (r : Res Vl) : Res Vl := bindR r fun x ρ1 => match rdV ρ1 x with
  | some (.int n) => if -(2 ^ 62) ≤ n ∧ n ≤ 1000000 then .ok (.own (.lst (rngT 0 1 n.toNat))) ρ1 else .bot
  | _ => .bot
def kLR2 (ρ1 : R) (o : Option T) : Res Vl := match o with
  | some (.int n) => if -(2 ^ 62) ≤ n ∧ n ≤ 1000000 then .ok (.own (.lst (rngT 0 1 n.toNat))) ρ1 else .bot
  | _ => .bot
theorem go_lrg (f : M Vl) : eLRg f ρ = kLR (f ρ) := nrk rfl
theorem kLR_ok (x : Vl) : kLR (.ok x ρ) = kLR2 ρ (rdV ρ x) := nrk rfl
end
end MX
namespace GX
open PySem PySem.Spec PyProof.Rows L2 LamX
section
variable {P : Program} {w : World} {K : PySem.W.Frag} {mg mb : Str → Option Value} {CX : CXT} {k : Nat} {fa a : Addr} {fd : FuncData} {x : Str} {sp : Sp} {s₁ : Shared} {vs : List Value} {ns : List Int} {tt : List Addr} {cs : List (Addr × Addr)}
theorem law_callS (KX : K.In s₁.heap) (hns : s₁.heap.Ns mainGlobals mg) (hb : s₁.heap.Ns builtinsNs mb) (hbb : ∀ y : Str, y ≠ "__name__" → mb y = bootBuiltins y) (hlim : s₁.heap.NoLimit) (hg : s₁.gens = #[])
    (hT : ∀ p ∈ cs, s₁.heap.get? p.2 = some empO) (nT : ∀ p ∈ cs, K.lookup p.2 = none) (hC : ∀ p ∈ cs, PySem.W.CodeHd s₁.heap p.1 p.2)
    (hbm : ∃ (bm : Addr) (ob : Obj), mg "__builtins__" = some (.ref bm) ∧ bm ≠ builtinsNs ∧ s₁.heap.get? bm = some ob ∧ ob.cls = .type "module" ∧ ob.dict = some builtinsNs ∧ ob.data = .plain)
    (ha : s₁.heap.get? a = some { cls := .type "list", data := .seq vs.toArray }) (hi : IntsAre vs ns) (hl : ns.length ≤ sizeLine) (hr : Room k callerA)
    (hs : ∃ mm, s₁.heap.Ns sysModules mm) (F : ∀ base : Heap, K.In base → base.Ns mainGlobals mg → (∀ p ∈ cs, TabB base mg p.1 p.2) → SysB base → FnG P w K mg base CX k fa fd [x] sp) (bd : ∀ (s : Shared) (u : Value), BindsTo s fd ⟨[u], []⟩ [(x, u)])
    (hsp : ∀ H : Hp, (∀ p ∈ cs, H p.2 = some (.tbl #[])) → (∀ b, b ∉ cs.map (·.2) → H b = none ∨ ∃ o xs, H b = some (.frz o (.lst xs))) → SqL K H a (ns.map V.int) → sp [.ref a] H (fun v _ => v = .bl true) fun _ _ _ => False)
    (hCX : ∀ H e s', CX [] H s₁ (fun _ _ _ => False) e s' → False) :
    codeAny (model P w) callerA (.call (.ref fa) ⟨[.ref a], []⟩) (fun r s' => r = .ok (.ret (.bool true)) ∧ OldK s₁.heap s'.heap ∧ s'.os = s₁.os ∧ AllBare s'.gens) s₁ := by
  have tabO : ∀ b ∈ cs.map (·.2), s₁.heap.get? b = some empO := fun b hb => by
    obtain ⟨p, hp, e⟩ := List.mem_map.mp hb
    rw [← e]
    exact hT p hp
  have mem2 : ∀ p ∈ cs, p.2 ∈ cs.map (·.2) := fun p hp => List.mem_map.mpr ⟨p, hp, rfl⟩
  obtain ⟨H, T⟩ := atT_ex (P := P) (w := w) (tt := cs.map (·.2)) KX tabO ha hi hl
  -- objects that are neither lists nor empty records stand outside
  have free : ∀ {b : Addr} {o : Obj}, s₁.heap.get? b = some o → (∀ us n, o.data ≠ .seq us n) → o.data ≠ .fields #[] → H b = none := by
    intro b o e h1 h2
    cases q : H b with
    | none => rfl
    | some u =>
      rcases T.one b u q with z | z
      · rw [z, ha] at e
        cases e
        exact (h1 _ _ rfl).elim
      · rw [tabO b z] at e
        cases e
        exact (h2 rfl).elim
  have free2 : ∀ {b : Addr} {o : Obj} {d : Data}, s₁.heap.get? b = some o → o.data = d → (∀ us n, d ≠ .seq us n) → d ≠ .fields #[] → (hidT s₁.heap H).get? b = some o := by
    intro b o d e ed h1 h2
    exact hidT_get e (free e (fun us n z => h1 us n (ed.symm.trans z)) fun z => h2 (ed.symm.trans z))
  have nsB : ∀ {b : Addr} {m : Str → Option Value}, s₁.heap.Ns b m → (hidT s₁.heap H).Ns b m := by
    rintro b m ⟨o, es, ep, e, d, r⟩
    exact ⟨o, es, ep, free2 e d (fun _ _ z => by cases z) (fun z => by cases z), d, r⟩
  have kinB : K.In (hidT s₁.heap H) := by
    intro b o e
    refine hidT_get (KX b o e) ?_
    cases q : H b with
    | none => rfl
    | some u =>
      rcases T.one b u q with z | z
      · rw [z] at q e
        rw [T.out u q] at e
        cases e
      · obtain ⟨p, hp, ep⟩ := List.mem_map.mp z
        rw [← ep, nT p hp] at e
        cases e
  have hM : Mod K mg (hidT s₁.heap H) := by
    obtain ⟨mc, h1, h2⟩ := hlim
    exact ⟨kinB, nsB hns, ⟨mb, nsB hb, hbb⟩, ⟨mc, nsB h1, h2⟩⟩
  have notG : ∀ {b : Addr} {o : Obj}, s₁.heap.get? b = some o → (∀ es ep, o.data ≠ .dict es ep) → b ≠ mainGlobals := by
    rintro b o e h rfl
    obtain ⟨o2, es, ep, e2, d, _⟩ := hns
    rw [e] at e2
    cases e2
    exact h es ep d
  have tB : ∀ p ∈ cs, TabB (hidT s₁.heap H) mg p.1 p.2 := by
    intro p hp
    constructor
    · obtain ⟨o, us, fl, tf, fg, tg, iF, tx, tx2, c1, c2, c3, c4, rest⟩ := hC p hp
      exact ⟨o, us, fl, tf, fg, tg, iF, tx, tx2, free2 c1 c3 (fun _ _ z => by cases z) (fun z => by
        cases z
        simp at c4), c2, c3, c4, rest⟩
    · obtain ⟨bm, ob, b1, b2, b3, b4, b5, b6⟩ := hbm
      exact ⟨bm, ob, b1, b2, notG b3 (fun _ _ z => by rw [b6] at z; cases z), (fun z => by
        rw [z, hT p hp] at b3
        cases b3
        cases b6), free2 b3 b6 (fun _ _ z => by cases z) (fun z => by cases z), b4, b5, b6⟩
    · exact (notG (hT p hp) (fun _ _ z => by cases z)).symm
  have e0 : Env0 P w K mg (hidT s₁.heap H) callerA [] s₁ H :=
    ⟨rfl, hM, fun b o e => of_hidT e, Nat.le_of_eq (hidT_size _ _), trivial, fun b z => absurd (show b ∈ ([] : List Addr) from z) (by simp), T.ok, .of_eq hg⟩
  have sB : SysB (hidT s₁.heap H) := by
    obtain ⟨mm, o, es, ep, e, d, _⟩ := hs
    exact ⟨o, es, ep, free2 e d (fun _ _ z => by cases z) (fun z => by cases z), d⟩
  have run := (F _ kinB (nsB hns) tB sB).go callerA [] s₁ H ⟨[.ref a], []⟩ [.ref a] [.ref a] _ _ rfl hr e0 (bd s₁ (.ref a)) (.cons rfl .nil) (hsp H (fun p hp => T.tab _ (mem2 p hp)) T.only T.sq)
  refine codeAny_mono run ?_
  intro r s' z
  match r, z with
  | .error e, z => exact (hCX H e s' z).elim
  | .ok .next, z => exact z.elim
  | .ok .brk, z => exact z.elim
  | .ok .cont, z => exact z.elim
  | .ok (.ret u), z =>
    obtain ⟨v, H', os, bare, un, ok2, r', q⟩ := z
    have q' : v = .bl true := q
    subst q'
    have eu : u = Value.bool true := r'
    subst eu
    have stays : ∀ b o, b ∉ cs.map (·.2) → s₁.heap.get? b = some o → s'.heap.get? b = some o := by
      intro b o nb e
      rcases T.only b nb with y | ⟨ob, xs, y⟩
      · exact un.keep b o e y (fun y => absurd (show b ∈ ([] : List Addr) from y) (by simp)) (by simp)
      · have y2 := un.frzs b ob _ y
        have g1 := (T.ok b _ y).1
        have g2 := (ok2 b _ y2).1
        rw [e] at g1
        cases g1
        exact g2
    have grows : ∀ p ∈ cs, ∃ more : Array Value, s'.heap.get? p.2 = some { cls := .none, data := .fields more } := by
      intro p hp
      obtain ⟨more, y⟩ := un.tbls p.2 #[] (T.tab _ (mem2 p hp))
      exact ⟨_, ok2 p.2 _ y⟩
    refine ⟨rfl, ⟨fun b o e => ?_, fun b o e => ?_⟩, os, bare⟩
    · by_cases m : b ∈ cs.map (·.2)
      · obtain ⟨p, hp, ep⟩ := List.mem_map.mp m
        obtain ⟨more, y⟩ := grows p hp
        subst ep
        rw [hT p hp] at e
        cases e
        exact .inr (.inl ⟨((hC p hp).tab (hT p hp)).isCodeTable, rfl, #[], more, rfl, by rw [Array.empty_append]; exact y⟩)
      · exact .inl (stays b o m e)
    · by_cases m : b ∈ cs.map (·.2)
      · obtain ⟨p, hp, ep⟩ := List.mem_map.mp m
        obtain ⟨more, y⟩ := grows p hp
        subst ep
        exact ⟨_, y⟩
      · exact ⟨o, stays b o m e⟩
end
theorem walkS {l : PySem.W.OpenLaw} {n k : Nat} {q : Program} {loose : List Str} {XP : (Str → Option Value) → Heap → Prop} {YP : World → Heap → Prop} {d : DefRec} {K : Params → PySem.W.Frag} {CX : World → CXT} {x : Str}
    (hn : l.most = some n) (hn2 : n ≤ sizeLine) (hq : importsNone q = true) (hdf : d.params.defaults = []) (hr : Room k callerA) (hY : ∀ (w : World) (h : Heap), YP w h → (K w.params).In h)
    (F : ∀ (w : World) (mg : Str → Option Value) (fa : Addr) (h : Heap), (K w.params).In h → h.Ns mainGlobals mg → mg d.name = some (.ref fa) →
      ∃ (fd : FuncData) (mk : List (Str × Addr × Addr)) (sp : Sp), mkIn (K w.params) q mk ∧ (∀ (s : Shared) (u : Value), BindsTo s fd ⟨[u], []⟩ [(x, u)]) ∧
        (∀ (H : Hp) (a : Addr) (ns : List Int), ns.length ≤ n → (∀ r ∈ mk, H r.2.2 = some (.tbl #[])) → (∀ b, b ∉ mk.map (·.2.2) → H b = none ∨ ∃ o xs, H b = some (.frz o (.lst xs))) → SqL (K w.params) H a (ns.map V.int) → sp [.ref a] H (fun v _ => v = .bl true) fun _ _ _ => False) ∧
        ∀ base : Heap, (K w.params).In base → base.Ns mainGlobals mg → (∀ r ∈ mk, TabB base mg r.2.1 r.2.2) → SysB base → FnG l.prog w (K w.params) mg base (CX w) k fa fd [x] sp)
    (hCX : ∀ (w : World) (H : Hp) (s : Shared) (e : Value) (s' : Shared), CX w [] H s (fun _ _ _ => False) e s' → False) : PySem.W.WalkO q loose XP YP l.row.toRowW d [] (fun f vs => PySem.call f vs) := by
  refine Att.attach_call hn hdf ?_
  intro w s₀ s₁ mg mb fa o pm cd doc a vs ns G Y ho hd hcd hmg hobj hints hlen hg
  have KX := hY w _ Y
  obtain ⟨fd, mk, sp, hmk, bd, hsp, hF⟩ := F w mg fa _ KX G.T.g hmg
  have mm : ∀ p ∈ mk.map (·.2), ∃ r ∈ mk, r.2 = p := fun p hp => by
    obtain ⟨r, h1, h2⟩ := List.mem_map.mp hp
    exact ⟨r, h1, h2⟩
  have both : ∀ p ∈ mk.map (·.2), PySem.W.CodeHd s₁.heap p.1 p.2 ∧ s₁.heap.get? p.2 = some empO := fun p hp => by
    obtain ⟨r, h1, rfl⟩ := mm p hp
    obtain ⟨e1, _, dd, e3⟩ := hmk r h1
    exact PySem.W.tab_of G.T KX e3 e1
  have eqm : (mk.map (·.2)).map (·.2) = mk.map (·.2.2) := by
    rw [List.map_map]
    rfl
  refine law_callS (cs := mk.map (·.2)) KX G.T.g G.T.b G.T.builtins G.T.nolimit hg (fun p hp => (both p hp).2) (fun p hp => ?_) (fun p hp => (both p hp).1) G.T.bmain hobj hints (Nat.le_trans hlen hn2) hr
    (let ⟨mm, x, _⟩ := (G.T.seer hq).mods; ⟨mm, x⟩) (fun base h1 h2 h3 h4 => hF base h1 h2 (fun r hr => h3 _ (List.mem_map.mpr ⟨r, hr, rfl⟩)) h4) bd (fun H h1 h2 h3 => hsp H a ns hlen (fun r hr => h1 _ (List.mem_map.mpr ⟨r, hr, rfl⟩)) (by rw [← eqm]; exact h2) h3) (fun H e s' => hCX w H s₁ e s')
  obtain ⟨r, h1, rfl⟩ := mm p hp
  exact (hmk r h1).2.1
end GX
set_option Elab.async false
set_option linter.all false
set_option maxRecDepth 100000
set_option maxHeartbeats 4000000
namespace L2
open PySem PySem.Spec PyProof.Rows
end L2
namespace MX
open PySem PySem.Spec PyProof.Rows L2 GX
section
variable [TabL] {K : PySem.W.Frag} {E : XS} {B : Bs} {G G1 G' H H1 H' : Hp} {σ : L2.St} {ρ ρ' : R}
def keyU : Key → T
  | .inl i => .int i
  | .inr x => .str x
def keysT (gs : List (Key × T)) : List T := gs.map fun kv => keyU kv.1
/-- [.. for k in d ..], d a dict of one's own -/
def eLcD (i : Nat) (wv : List Nat) (h : T → R → Option R) (c : M Bool) (e : M Vl) (vs : List Nat) : M Vl := fun ρ => match ρ[i]? with
  | some (.ow (.dct gs)) => (match eLc (iW wv fun ρ => .ok (keysT gs) ρ) h c e vs (ρ.set i .no) with
    | .ok x ρ' => (match ρ'[i]? with
      | some .no => .ok x (ρ'.set i (.ow (.dct gs)))
      | _ => .bot)
    | _ => .bot)
  | _ => .bot
def oFld (Cl : List Str) (f : Str) : T → Option Vl
  | .obj C gs => if C ∈ Cl then (match gs.lookup f with
    | some t => some (.val t)
    | none => none) else none
  | _ => none
theorem me_fldU {Cl : List Str} {f : Str} {te : TE} {g : M Vl} (hC : ∀ C ∈ Cl, Cls K (nm K C) ∧ NoAttr K (nm K C) f) (he : ME K E te g) : ME K E (tFld K te f) (eUn (oFld Cl f) g) :=
  me_un' (r := fun x H1 Q => ∃ a C dx fs v, x = .ref a ∧ H1 a = some (.ins C dx fs) ∧ Cls K C ∧ NoAttr K C f ∧ fs.lookup f = some v ∧ Q v H1) (fun B G H σ ρ x tx z Q h vx e q => by
    unfold oFld at e
    split at e
    · next C gs =>
      split at e
      · next hc =>
        split at e
        · next t et =>
          cases e
          obtain ⟨a, dx, fs, rfl, ha, r⟩ := vx.obj h.sub
          obtain ⟨u, eu, ru⟩ := repF_look r et
          obtain ⟨k1, k2⟩ := hC C hc
          exact ⟨a, _, dx, fs, u, rfl, ha, k1, k2, eu, q u _ _ (Same.refl G) h ru⟩
        · cases e
      · cases e
    · cases e) he
def blTs : List T → Option (List Bool)
  | [] => some []
  | .bl b :: ts => match blTs ts with
    | some bs => some (b :: bs)
    | none => none
  | _ => none
def bTs (g : List Bool → Bool) : List T → Option Vl
  | [.lst ts] => match blTs ts with
    | some bs => some (.val (.bl (g bs)))
    | none => none
  | _ => none
def bIs (g : List Int → Option Int) : List T → Option Vl
  | [.lst ts] => match inT ts with
    | some ns => (match g ns with
      | some i => some (.val (.int i))
      | none => none)
    | none => none
  | _ => none
def bStrI : List T → Option Vl
  | [.int i] => if i.natAbs.log2 < 1920 then some (.val (.str (toString i))) else none
  | _ => none
def bBool : List T → Option Vl
  | [.int i] => some (.val (.bl (i != 0)))
  | [.bl b] => some (.val (.bl b))
  | _ => none
/-- l.count(x), of data -/
def oCntD (a b : T) : Option Vl := match toD a, toD b with
  | some (.list ds), some d => if SeqAt.shaped d = true ∧ SeqAt.shaped (.list ds) = true then some (.val (.int ((ds.countP fun z => PyData.eqv z d : Nat) : Int))) else none
  | _, _ => none
end
end MX
set_option Elab.async false
set_option linter.all false
set_option maxRecDepth 100000
set_option maxHeartbeats 4000000
namespace MX
open PySem PySem.Spec PyProof.Rows L2 GX
section
variable [TabL] {K : PySem.W.Frag} {E : XS} {B : Bs} {G G1 G' H H1 H' : Hp} {σ : L2.St} {ρ ρ' : R}
/-- l.count(x) -/
def eCount (f g : M Vl) : M Vl := fun ρ => bindR (f ρ) fun x ρ1 => match fixV ρ1 x with
  | some (.lst ts, ρ2) => bindR (g ρ2) fun y ρ3 => opt (ap2 oCntD (some (.lst ts)) (rdV ρ3 y)) ρ3
  | _ => .bot
/-- x, y = two empty ones -/
def sPar2 (i j : Nat) (c d : OC) : S := fun ρ => match ρ[i]?, ρ[j]? with
  | some y, some z => if y.isIo = false ∧ z.isIo = false ∧ i ≠ j then .nx ((ρ.set i (.ow c)).set j (.ow d)) else .bot
  | _, _ => .bot
/-- x, y, z = .. -/
def sPar3 (i j l : Nat) (as : M (List Vl)) : S := fun ρ => after (as ρ) fun xs ρ1 => match fixA ρ1 xs with
  | some ([t, u, w], ρ2) => (match gN i t ρ2 with
    | some ρ3 => (match gN j u ρ3 with
      | some ρ4 => (match gN l w ρ4 with
        | some ρ5 => .nx ρ5
        | none => .bot)
      | none => .bot)
    | none => .bot)
  | _ => .bot
end
end MX
namespace LamX
open PySem PySem.Spec PyProof.Rows L2
end LamX
namespace MX
open PySem PySem.Spec PyProof.Rows L2 GX LamX
end MX
namespace Pg
end Pg
set_option Elab.async false
set_option linter.all false
set_option maxRecDepth 100000
set_option maxHeartbeats 4000000
namespace MX
open PySem PySem.Spec PyProof.Rows L2 GX
section
variable {ρ : R}
theorem noX_ok (x : Vl) (c : Option OC) : noX (.ok x c) = .ok x c := nr rfl
theorem noX_ex (C : Str) (fs : List (Str × T)) (c : Option OC) : noX (.ex C fs c) = .bot := nr rfl
/-- a def from which errors leave -/
def kE (i : R → Option OC) (o : Out) : FR := endF o i
theorem go_xD (m n : Nat) (b : S) (ts : List T) (h : ts.length = m) : runD m n b ts = kE kNo (b (fzs ts ++ List.replicate (n - m) .no)) := by
  unfold runD
  rw [if_pos h]
  rfl
theorem go_xI (m n : Nat) (b : S) (c : OC) (ts : List T) (h : ts.length + 1 = m) : runI m n b c ts = kE io0 (b (.io c :: (fzs ts ++ List.replicate (n - m) .no))) := by
  unfold runI
  rw [if_pos h]
  rfl
theorem kE_nx (i : R → Option OC) : kE i (.nx ρ) = .ok (.val .non) (i ρ) := nr rfl
theorem kE_val (i : R → Option OC) (t : T) : kE i (.rt (.val t) ρ) = .ok (.val t) (i ρ) := nr rfl
theorem kE_own (i : R → Option OC) (c : OC) : kE i (.rt (.own c) ρ) = .ok (.own c) (i ρ) := nr rfl
theorem kE_ex (i : R → Option OC) (C : Str) (fs : List (Str × T)) : kE i (.ex C fs ρ) = .ex C fs (i ρ) := nr rfl
def kCK (n m : Nat) (idx : List Nat) (d : List T → FR) (bs : M (List Vl)) (r : Res (List Vl)) : Res Vl := bindR r fun xs ρ1 => bindR (bs ρ1) fun ys ρ2 => match fixA ρ2 xs with
  | some (ts, ρ3) => match fixA ρ3 ys with
    | some (us, ρ4) => if ts.length = n ∧ us.length = m then callR (d (byK idx (ts ++ us))) ρ4 else .bot
    | none => .bot
  | none => .bot
def kCK2 (n m : Nat) (idx : List Nat) (d : List T → FR) (xs : List Vl) (r : Res (List Vl)) : Res Vl := bindR r fun ys ρ2 => match fixA ρ2 xs with
  | some (ts, ρ3) => match fixA ρ3 ys with
    | some (us, ρ4) => if ts.length = n ∧ us.length = m then callR (d (byK idx (ts ++ us))) ρ4 else .bot
    | none => .bot
  | none => .bot
def kCK3 (n m : Nat) (idx : List Nat) (d : List T → FR) (ys : List Vl) (o : Option (List T × R)) : Res Vl := match o with
  | some (ts, ρ3) => match fixA ρ3 ys with
    | some (us, ρ4) => if ts.length = n ∧ us.length = m then callR (d (byK idx (ts ++ us))) ρ4 else .bot
    | none => .bot
  | none => .bot
def kCK4 (n m : Nat) (idx : List Nat) (d : List T → FR) (ts : List T) (o : Option (List T × R)) : Res Vl := match o with
  | some (us, ρ4) => if ts.length = n ∧ us.length = m then callR (d (byK idx (ts ++ us))) ρ4 else .bot
  | none => .bot
def cCK (a b : Nat) (c e : Nat) (r : FR) (ρ4 : R) : Res Vl := if a = b ∧ c = e then callR r ρ4 else .bot
theorem go_callK (n m : Nat) (idx : List Nat) (d : List T → FR) (as bs : M (List Vl)) : eCallK n m idx d as bs ρ = kCK n m idx d bs (as ρ) := nr rfl
theorem kCK_ok (n m : Nat) (idx : List Nat) (d : List T → FR) (bs : M (List Vl)) (xs : List Vl) : kCK n m idx d bs (.ok xs ρ) = kCK2 n m idx d xs (bs ρ) := nr rfl
theorem kCK2_ok (n m : Nat) (idx : List Nat) (d : List T → FR) (xs ys : List Vl) : kCK2 n m idx d xs (.ok ys ρ) = kCK3 n m idx d ys (fixA ρ xs) := nr rfl
theorem kCK3_ok (n m : Nat) (idx : List Nat) (d : List T → FR) (ts : List T) (ys : List Vl) : kCK3 n m idx d ys (some (ts, ρ)) = kCK4 n m idx d ts (fixA ρ ys) := nr rfl
theorem kCK4_ok (n m : Nat) (idx : List Nat) (d : List T → FR) (ts us : List T) : kCK4 n m idx d ts (some (us, ρ)) = cCK ts.length n us.length m (d (byK idx (ts ++ us))) ρ := nr rfl
theorem callR_val (t : T) (c : Option OC) : callR (.ok (.val t) c) ρ = .ok (.val t) ρ := nr rfl
theorem callR_own (o : OC) (c : Option OC) : callR (.ok (.own o) c) ρ = .ok (.own o) ρ := nr rfl
theorem callR_ex (C : Str) (fs : List (Str × T)) (c : Option OC) : callR (.ex C fs c) ρ = .ex C fs ρ := nr rfl
theorem byK1 (t : T) : byK [0] [t] = [t] := nr rfl
theorem byK01 (t u : T) : byK [0, 1] [t, u] = [t, u] := nr rfl
theorem byK10 (t u : T) : byK [1, 0] [t, u] = [u, t] := nr rfl
theorem byK012 (t u v : T) : byK [0, 1, 2] [t, u, v] = [t, u, v] := nr rfl
def kIO (d : OC → List T → FR) (r : Res Vl) : Res Vl := bindR r fun x ρ1 => match x with
  | .own c => match d c [] with
    | .ok x (some _) => okV x ρ1
    | .ex C fs (some _) => .ex C fs ρ1
    | _ => .bot
  | _ => .bot
def kIO2 (ρ1 : R) (r : FR) : Res Vl := match r with
  | .ok x (some _) => okV x ρ1
  | .ex C fs (some _) => .ex C fs ρ1
  | _ => .bot
theorem go_callIO (d : OC → List T → FR) (f : M Vl) : eCallIO d f ρ = kIO d (f ρ) := nr rfl
theorem kIO_ok (d : OC → List T → FR) (c : OC) : kIO d (.ok (.own c) ρ) = kIO2 ρ (d c []) := nr rfl
theorem kIO2_val (t : T) (c : OC) : kIO2 ρ (.ok (.val t) (some c)) = .ok (.val t) ρ := nr rfl
theorem kIO2_own (o : OC) (c : OC) : kIO2 ρ (.ok (.own o) (some c)) = .ok (.own o) ρ := nr rfl
theorem kIO2_ex (C : Str) (fs : List (Str × T)) (c : OC) : kIO2 ρ (.ex C fs (some c)) = .ex C fs ρ := nr rfl
def kLam (dR : Str → List (Str × T) → Option Vl) (r : Res Vl) : Res Vl := match r with
  | .ok x ρ1 => (match fixV ρ1 x with
    | some (t, ρ2) => .ok (.own (.lst [.str "told", t])) ρ2
    | none => .bot)
  | .ex C fs ρ1 => (match dR C fs with
    | some y => okV y ρ1
    | none => .bot)
  | .bot => .bot
def kLam2 (o : Option (T × R)) : Res Vl := match o with
  | some (t, ρ2) => .ok (.own (.lst [.str "told", t])) ρ2
  | none => .bot
def kLam3 (ρ1 : R) (o : Option Vl) : Res Vl := match o with
  | some y => okV y ρ1
  | none => .bot
theorem go_lam (dR : Str → List (Str × T) → Option Vl) (f : M Vl) : eLam dR f ρ = kLam dR (f ρ) := nr rfl
theorem kLam_ok (dR : Str → List (Str × T) → Option Vl) (x : Vl) : kLam dR (.ok x ρ) = kLam2 (fixV ρ x) := nr rfl
theorem kLam_ex (dR : Str → List (Str × T) → Option Vl) (C : Str) (fs : List (Str × T)) : kLam dR (.ex C fs ρ) = kLam3 ρ (dR C fs) := nr rfl
theorem kLam2_ok (t : T) : kLam2 (some (t, ρ)) = .ok (.own (.lst [.str "told", t])) ρ := nr rfl
theorem kLam3_val (t : T) : kLam3 ρ (some (.val t)) = .ok (.val t) ρ := nr rfl
theorem kLam3_own (c : OC) : kLam3 ρ (some (.own c)) = .ok (.own c) ρ := nr rfl
def kRs (C f : Str) (r : Res (List Vl)) : Out := after r fun xs ρ1 => match fixA ρ1 xs with
  | some ([t], ρ2) => .ex C [(f, t)] ρ2
  | _ => .bot
def kRs2 (C f : Str) (o : Option (List T × R)) : Out := match o with
  | some ([t], ρ2) => .ex C [(f, t)] ρ2
  | _ => .bot
theorem go_rs (C f : Str) (as : M (List Vl)) : sRaise C f as ρ = kRs C f (as ρ) := nr rfl
theorem kRs_ok (C f : Str) (xs : List Vl) : kRs C f (.ok xs ρ) = kRs2 C f (fixA ρ xs) := nr rfl
theorem kRs2_ok (C f : Str) (t : T) : kRs2 C f (some ([t], ρ)) = .ex C [(f, t)] ρ := nr rfl
def kXf (a d : Addr) (C f : Str) (r : Res Vl) : Res Vl := bindR r fun x ρ1 => match rdV ρ1 x with
  | some (.exc a' d' C' fs) => if a' = a ∧ d' = d ∧ C' = C then (match fs.lookup f with
    | some t => .ok (.val t) ρ1
    | none => .bot) else .bot
  | _ => .bot
def kXf2 (a d : Addr) (C f : Str) (ρ1 : R) (o : Option T) : Res Vl := match o with
  | some (.exc a' d' C' fs) => if a' = a ∧ d' = d ∧ C' = C then (match fs.lookup f with
    | some t => .ok (.val t) ρ1
    | none => .bot) else .bot
  | _ => .bot
def kXf3 (ρ1 : R) (o : Option T) : Res Vl := match o with
  | some t => .ok (.val t) ρ1
  | none => .bot
theorem go_xf (a d : Addr) (C f : Str) (g : M Vl) : eXf a d C f g ρ = kXf a d C f (g ρ) := nr rfl
theorem kXf_ok (a d : Addr) (C f : Str) (x : Vl) : kXf a d C f (.ok x ρ) = kXf2 a d C f ρ (rdV ρ x) := nr rfl
theorem kXf2_ok (a d : Addr) (C f : Str) (fs : List (Str × T)) : kXf2 a d C f ρ (some (.exc a d C fs)) = kXf3 ρ (fs.lookup f) := by
  show (if a = a ∧ d = d ∧ C = C then kXf3 ρ (fs.lookup f) else .bot) = _
  rw [if_pos ⟨rfl, rfl, rfl⟩]
theorem kXf3_ok (t : T) : kXf3 ρ (some t) = .ok (.val t) ρ := nr rfl
def kWi (vs : List Nat) (r : Res (List T)) : Res (List T) := bindR r fun ts ρ1 => match wipeR vs ρ1 with
  | some ρ2 => .ok ts ρ2
  | none => .bot
def kWi2 (ts : List T) (o : Option R) : Res (List T) := match o with
  | some ρ2 => .ok ts ρ2
  | none => .bot
theorem go_iW (vs : List Nat) (f : M (List T)) : iW vs f ρ = kWi vs (f ρ) := nr rfl
theorem kWi_ok (vs : List Nat) (ts : List T) : kWi vs (.ok ts ρ) = kWi2 ts (wipeR vs ρ) := nr rfl
theorem kWi2_ok (ts : List T) : kWi2 ts (some ρ) = .ok ts ρ := nr rfl
def kRv (r : Res Vl) : Res (List T) := bindR r fun x ρ1 => match rdV ρ1 x with
  | some (.int n) => if -(2 ^ 62) ≤ n ∧ n < 2 ^ 62 then .ok (rngT ((n.toNat : Nat) - 1 : Int) (-1) n.toNat) ρ1 else .bot
  | _ => .bot
def kRv2 (ρ1 : R) (o : Option T) : Res (List T) := match o with
  | some (.int n) => if -(2 ^ 62) ≤ n ∧ n < 2 ^ 62 then .ok (rngT ((n.toNat : Nat) - 1 : Int) (-1) n.toNat) ρ1 else .bot
  | _ => .bot
theorem go_rv1 (f : M Vl) : iRv1 f ρ = kRv (f ρ) := nr rfl
theorem kRv_ok (x : Vl) : kRv (.ok x ρ) = kRv2 ρ (rdV ρ x) := nr rfl
end
end MX
set_option Elab.async false
set_option linter.all false
set_option maxRecDepth 100000
set_option maxHeartbeats 4000000
namespace MX
open PySem PySem.Spec PyProof.Rows L2 GX
section
variable {ρ : R}
theorem atz0 (a : T) (l : List T) : MX.atT (a :: l) 0 = some (.val a) := atI_nat' (i := 0) rfl
theorem atz1 (a b : T) (l : List T) : MX.atT (a :: b :: l) 1 = some (.val b) := atI_nat' (i := 1) rfl
theorem atz2 (a b c : T) (l : List T) : MX.atT (a :: b :: c :: l) 2 = some (.val c) := atI_nat' (i := 2) rfl
theorem atz3 (a b c d : T) (l : List T) : MX.atT (a :: b :: c :: d :: l) 3 = some (.val d) := atI_nat' (i := 3) rfl
theorem atz4 (a b c d e : T) (l : List T) : MX.atT (a :: b :: c :: d :: e :: l) 4 = some (.val e) := atI_nat' (i := 4) rfl
theorem fix_dct (gs : List (Key × T)) : OC.fix (.dct gs) = .dct gs := nr rfl
theorem lkp (f g : Str) (x : T) (r : List (Str × T)) : List.lookup f ((g, x) :: r) = if f = g then some x else List.lookup f r := by
  rw [List.lookup_cons]
  by_cases h : f = g
  · simp [h]
  · rw [if_neg h, beq_false_of_ne h]
theorem lkp0 (f : Str) : List.lookup f ([] : List (Str × T)) = none := rfl
theorem putT_nil (f : Str) (t : T) : putT f t [] = [(f, t)] := nr rfl
theorem putT_cons (f g : Str) (t x : T) (r : List (Str × T)) : putT f t ((g, x) :: r) = if g = f then (g, t) :: r else (g, x) :: putT f t r := nr rfl
def kOF (o : Option T) : Option Vl := match o with
  | some t => some (.val t)
  | none => none
theorem kOF_ok (t : T) : kOF (some t) = some (.val t) := nr rfl
theorem oFld_ok {Cl : List Str} {f C : Str} {gs : List (Str × T)} (h : C ∈ Cl) : oFld Cl f (.obj C gs) = kOF (List.lookup f gs) := if_pos h
def kFS (Cl : List Str) (i : Nat) (f : Str) (r : Res Vl) : Out := after r fun y ρ1 => match fixV ρ1 y with
  | some (t, ρ2) => match insAt ρ2 i with
    | some (x, C, gs) => if C ∈ Cl ∧ gs.length < 1000 then .nx (ρ2.set i (x.rep (.ins C (putT f t gs)))) else .bot
    | none => .bot
  | none => .bot
def kFS2 (Cl : List Str) (i : Nat) (f : Str) (o : Option (T × R)) : Out := match o with
  | some (t, ρ2) => match insAt ρ2 i with
    | some (x, C, gs) => if C ∈ Cl ∧ gs.length < 1000 then .nx (ρ2.set i (x.rep (.ins C (putT f t gs)))) else .bot
    | none => .bot
  | none => .bot
def kFS3 (Cl : List Str) (i : Nat) (f : Str) (t : T) (ρ2 : R) (o : Option (SV × Str × List (Str × T))) : Out := match o with
  | some (x, C, gs) => if C ∈ Cl ∧ gs.length < 1000 then .nx (ρ2.set i (x.rep (.ins C (putT f t gs)))) else .bot
  | none => .bot
theorem go_fldS (Cl : List Str) (i : Nat) (f : Str) (g : M Vl) : sFldS Cl i f g ρ = kFS Cl i f (g ρ) := nr rfl
theorem kFS_ok (Cl : List Str) (i : Nat) (f : Str) (y : Vl) : kFS Cl i f (.ok y ρ) = kFS2 Cl i f (fixV ρ y) := nr rfl
theorem kFS_ex (Cl : List Str) (i : Nat) (f : Str) (C : Str) (fs : List (Str × T)) : kFS Cl i f (.ex C fs ρ) = .ex C fs ρ := nr rfl
theorem kFS2_ok (Cl : List Str) (i : Nat) (f : Str) (t : T) : kFS2 Cl i f (some (t, ρ)) = kFS3 Cl i f t ρ (insAt ρ i) := nr rfl
theorem kFS3_ok {Cl : List Str} {i : Nat} {f : Str} {t : T} {x : SV} {C : Str} {gs : List (Str × T)} (h : C ∈ Cl) (l : gs.length < 1000) : kFS3 Cl i f t ρ (some (x, C, gs)) = .nx (ρ.set i (x.rep (.ins C (putT f t gs)))) := if_pos ⟨h, l⟩
def kIAt (o : Option SV) : Option (SV × Str × List (Str × T)) := match o with
  | some (.ow (.ins C gs)) => some (.ow (.ins C gs), C, gs)
  | some (.io (.ins C gs)) => some (.io (.ins C gs), C, gs)
  | _ => none
theorem go_insAt (i : Nat) : insAt ρ i = kIAt ρ[i]? := nr rfl
theorem kIAt_ow (C : Str) (gs : List (Str × T)) : kIAt (some (.ow (.ins C gs))) = some (.ow (.ins C gs), C, gs) := nr rfl
theorem kIAt_io (C : Str) (gs : List (Str × T)) : kIAt (some (.io (.ins C gs))) = some (.io (.ins C gs), C, gs) := nr rfl
def kO1 (k : T → T → R → Res Vl) (g : M Vl) (r : Res Vl) : Res Vl := bindR r fun x ρ1 => bindR (g ρ1) fun y ρ2 => match fixV ρ2 (stl x) with
  | some (t, ρ3) => (match fixV ρ3 (stl y) with
    | some (u, ρ4) => k t u ρ4
    | none => .bot)
  | none => .bot
def kO2 (k : T → T → R → Res Vl) (x : Vl) (r : Res Vl) : Res Vl := bindR r fun y ρ2 => match fixV ρ2 (stl x) with
  | some (t, ρ3) => (match fixV ρ3 (stl y) with
    | some (u, ρ4) => k t u ρ4
    | none => .bot)
  | none => .bot
def kO3 (k : T → T → R → Res Vl) (y : Vl) (o : Option (T × R)) : Res Vl := match o with
  | some (t, ρ3) => (match fixV ρ3 y with
    | some (u, ρ4) => k t u ρ4
    | none => .bot)
  | none => .bot
def kO4 (k : T → T → R → Res Vl) (t : T) (o : Option (T × R)) : Res Vl := match o with
  | some (u, ρ4) => k t u ρ4
  | none => .bot
theorem go_own2 (k : T → T → R → Res Vl) (f g : M Vl) : eOwn2 k f g ρ = kO1 k g (f ρ) := nr rfl
theorem kO1_ok (k : T → T → R → Res Vl) (g : M Vl) (x : Vl) : kO1 k g (.ok x ρ) = kO2 k x (g ρ) := nr rfl
theorem kO2_ok (k : T → T → R → Res Vl) (x y : Vl) : kO2 k x (.ok y ρ) = kO3 k (stl y) (fixV ρ (stl x)) := nr rfl
theorem kO3_ok (k : T → T → R → Res Vl) (y : Vl) (t : T) : kO3 k y (some (t, ρ)) = kO4 k t (fixV ρ y) := nr rfl
theorem kO4_ok (k : T → T → R → Res Vl) (t u : T) : kO4 k t (some (u, ρ)) = k t u ρ := nr rfl
theorem kOwnX_ok (C : Str) (d : List T → FR) (gs hs : List (Str × T)) : kOwnX C d (.obj C gs) (.obj C hs) ρ = refR (d [.obj C gs, .obj C hs]) ρ := if_pos ⟨rfl, rfl⟩
theorem refR_obj (D : Str) (fs : List (Str × T)) (c : Option OC) : refR (.ok (.val (.obj D fs)) c) ρ = .ok (.val (.obj D fs)) ρ := nr rfl
theorem refR_own (c' : OC) (c : Option OC) : refR (.ok (.own c') c) ρ = .ok (.own c') ρ := nr rfl
theorem refR_ex (C : Str) (fs : List (Str × T)) (c : Option OC) : refR (.ex C fs c) ρ = .ex C fs ρ := nr rfl
theorem blR_ok (b : Bool) (c : Option OC) : blR (.ok (.val (.bl b)) c) = some b := nr rfl
def kQ (neg : Bool) (ρ : R) (o : Option Bool) : Res Vl := match o with
  | some c => .ok (.val (.bl (if neg then !c else c))) ρ
  | none => .bot
theorem kQ_f (c : Bool) : kQ false ρ (some c) = .ok (.val (.bl c)) ρ := nr rfl
theorem kQ_t (c : Bool) : kQ true ρ (some c) = .ok (.val (.bl !c)) ρ := nr rfl
theorem kOwnQ_ok {neg : Bool} {C : Str} {os : List Str} {d : List T → FR} {gs : List (Str × T)} {u : T} (h : (isO C os u).isSome = true) : kOwnQ neg C os d (.obj C gs) u ρ = kQ neg ρ (blR (d [.obj C gs, u])) := by
  obtain ⟨b, hb⟩ := Option.isSome_iff_exists.mp h
  unfold kOwnQ
  rw [hb]
  exact if_pos rfl
theorem isO_obj {C D : Str} {os : List Str} {gs : List (Str × T)} (h : D ∈ os) : isO C os (.obj D gs) = some (decide (D = C)) := if_pos h
theorem isO_tup (C : Str) (os : List Str) (ts : List T) : isO C os (.tup ts) = some false := nr rfl
theorem isO_str (C : Str) (os : List Str) (x : Str) : isO C os (.str x) = some false := nr rfl
theorem isO_int (C : Str) (os : List Str) (x : Int) : isO C os (.int x) = some false := nr rfl
theorem isO_bl (C : Str) (os : List Str) (x : Bool) : isO C os (.bl x) = some false := nr rfl
theorem isO_non (C : Str) (os : List Str) : isO C os .non = some false := nr rfl
theorem isO_lst (C : Str) (os : List Str) (ts : List T) : isO C os (.lst ts) = some false := nr rfl
theorem isO_edc (C : Str) (os : List Str) : isO C os .edc = some false := nr rfl
theorem isO_dct (C : Str) (os : List Str) (gs : List (Key × T)) : isO C os (.dct gs) = some false := nr rfl
def kIsO (o : Option Bool) : Option Vl := match o with
  | some b => some (.val (.bl b))
  | none => none
theorem go_isO (C : Str) (os : List Str) (t : T) : bIsO C os [t, .cls C] = kIsO (isO C os t) := if_pos rfl
theorem kIsO_ok (b : Bool) : kIsO (some b) = some (.val (.bl b)) := nr rfl
theorem kOwnI_ok (C : Str) (d : List T → FR) (t : T) (gs : List (Str × T)) : kOwnI C d t (.obj C gs) ρ = kQ false ρ (blR (d [.obj C gs, t])) := if_pos rfl
def kTO (C : Str) (d : List T → FR) (r : Res Vl) : Res Bool := bindR r fun x ρ1 => match fixV ρ1 x with
  | some (.obj C1 gs, ρ2) => if C1 = C then (match blR (d [.obj C gs]) with
    | some c => .ok c ρ2
    | none => .bot) else .bot
  | _ => .bot
def kTO2 (C : Str) (d : List T → FR) (o : Option (T × R)) : Res Bool := match o with
  | some (.obj C1 gs, ρ2) => if C1 = C then (match blR (d [.obj C gs]) with
    | some c => .ok c ρ2
    | none => .bot) else .bot
  | _ => .bot
def kTO3 (ρ : R) (o : Option Bool) : Res Bool := match o with
  | some c => .ok c ρ
  | none => .bot
theorem go_tOwn (C : Str) (d : List T → FR) (f : M Vl) : tOwn C d f ρ = kTO C d (f ρ) := nr rfl
theorem kTO_ok (C : Str) (d : List T → FR) (x : Vl) : kTO C d (.ok x ρ) = kTO2 C d (fixV ρ x) := nr rfl
theorem kTO2_ok (C : Str) (d : List T → FR) (gs : List (Str × T)) : kTO2 C d (some (.obj C gs, ρ)) = kTO3 ρ (blR (d [.obj C gs])) := if_pos rfl
theorem kTO3_ok (c : Bool) : kTO3 ρ (some c) = .ok c ρ := nr rfl
theorem go_notO (C : Str) (d : List T → FR) (f : M Vl) : eNotO C d f ρ = kEN (tOwn C d f ρ) := nr rfl
def kMk (C : Str) (d : OC → List T → FR) (r : Res (List Vl)) : Res Vl := bindR r fun xs ρ1 => match fixA ρ1 xs with
  | some (ts, ρ2) => match d (.ins C []) ts with
    | .ok (.val .non) (some c') => .ok (.own c') ρ2
    | .ex C' fs (some _) => .ex C' fs ρ2
    | _ => .bot
  | none => .bot
def kMk2 (C : Str) (d : OC → List T → FR) (o : Option (List T × R)) : Res Vl := match o with
  | some (ts, ρ2) => match d (.ins C []) ts with
    | .ok (.val .non) (some c') => .ok (.own c') ρ2
    | .ex C' fs (some _) => .ex C' fs ρ2
    | _ => .bot
  | none => .bot
def kMk3 (ρ2 : R) (r : FR) : Res Vl := match r with
  | .ok (.val .non) (some c') => .ok (.own c') ρ2
  | .ex C' fs (some _) => .ex C' fs ρ2
  | _ => .bot
theorem go_make (C : Str) (d : OC → List T → FR) (as : M (List Vl)) : eMake C d as ρ = kMk C d (as ρ) := nr rfl
theorem kMk_ok (C : Str) (d : OC → List T → FR) (xs : List Vl) : kMk C d (.ok xs ρ) = kMk2 C d (fixA ρ xs) := nr rfl
theorem kMk2_ok (C : Str) (d : OC → List T → FR) (ts : List T) : kMk2 C d (some (ts, ρ)) = kMk3 ρ (d (.ins C []) ts) := nr rfl
theorem kMk3_ok (c : OC) : kMk3 ρ (.ok (.val .non) (some c)) = .ok (.own c) ρ := nr rfl
theorem kMk3_ex (C : Str) (fs : List (Str × T)) (c : OC) : kMk3 ρ (.ex C fs (some c)) = .ex C fs ρ := nr rfl
theorem dS_ok {d : OC → List T → FR} {c : OC} {ts : List T} (h : ts.length ≤ 16777216) : dS d c ts = d c [.tup ts] := if_pos h
def kSA (g : M (List Vl)) (r : Res Vl) : Res (List Vl) := bindR r fun x ρ1 => match fixV ρ1 x with
  | some (t, ρ2) => (match seqOf t with
    | some ts => bindR (g ρ2) fun xs ρ3 => .ok (ts.map Vl.val ++ xs) ρ3
    | none => .bot)
  | none => .bot
def kSA2 (g : M (List Vl)) (o : Option (T × R)) : Res (List Vl) := match o with
  | some (t, ρ2) => (match seqOf t with
    | some ts => bindR (g ρ2) fun xs ρ3 => .ok (ts.map Vl.val ++ xs) ρ3
    | none => .bot)
  | none => .bot
def kSA3 (g : M (List Vl)) (ρ2 : R) (o : Option (List T)) : Res (List Vl) := match o with
  | some ts => bindR (g ρ2) fun xs ρ3 => .ok (ts.map Vl.val ++ xs) ρ3
  | none => .bot
def kSA4 (ts : List T) (r : Res (List Vl)) : Res (List Vl) := bindR r fun xs ρ3 => .ok (ts.map Vl.val ++ xs) ρ3
theorem go_aStar (f : M Vl) (g : M (List Vl)) : aStar f g ρ = kSA g (f ρ) := nr rfl
theorem kSA_ok (g : M (List Vl)) (x : Vl) : kSA g (.ok x ρ) = kSA2 g (fixV ρ x) := nr rfl
theorem kSA2_ok (g : M (List Vl)) (t : T) : kSA2 g (some (t, ρ)) = kSA3 g ρ (seqOf t) := nr rfl
theorem kSA3_ok (g : M (List Vl)) (ts : List T) : kSA3 g ρ (some ts) = kSA4 ts (g ρ) := nr rfl
theorem kSA4_nil (ts : List T) : kSA4 ts (.ok [] ρ) = .ok (ts.map Vl.val) ρ := by
  show Res.ok (ts.map Vl.val ++ []) ρ = _
  rw [List.append_nil]
theorem fixA_vals : ∀ ts : List T, fixA ρ (ts.map Vl.val) = some (ts, ρ)
  | [] => rfl
  | t :: ts => by
    rw [List.map_cons, fxA_cons, fx_val, kFA_ok, fixA_vals ts, kFA2_ok]
def kMe (C m : Str) (d : List T → FR) (as : M (List Vl)) (r : Res Vl) : Res Vl := bindR r fun x ρ1 => match fixV ρ1 x with
  | some (.obj C' gs, ρ2) => if C' = C ∧ gs.lookup m = none then bindR (as ρ2) fun xs ρ3 => (match fixA ρ3 xs with
    | some (ts, ρ4) => (match d (.obj C gs :: ts) with
      | .ok y _ => okV y ρ4
      | .ex C fs _ => .ex C fs ρ4
      | .bot => .bot)
    | none => .bot) else .bot
  | _ => .bot
def kMe2 (C m : Str) (d : List T → FR) (as : M (List Vl)) (o : Option (T × R)) : Res Vl := match o with
  | some (.obj C' gs, ρ2) => if C' = C ∧ gs.lookup m = none then bindR (as ρ2) fun xs ρ3 => (match fixA ρ3 xs with
    | some (ts, ρ4) => (match d (.obj C gs :: ts) with
      | .ok y _ => okV y ρ4
      | .ex C fs _ => .ex C fs ρ4
      | .bot => .bot)
    | none => .bot) else .bot
  | _ => .bot
def kMe3 (t : T) (d : List T → FR) (r : Res (List Vl)) : Res Vl := bindR r fun xs ρ3 => (match fixA ρ3 xs with
    | some (ts, ρ4) => (match d (t :: ts) with
      | .ok y _ => okV y ρ4
      | .ex C fs _ => .ex C fs ρ4
      | .bot => .bot)
    | none => .bot)
theorem go_meth (C m : Str) (d : List T → FR) (f : M Vl) (as : M (List Vl)) : eMeth C m d f as ρ = kMe C m d as (f ρ) := nr rfl
theorem kMe_ok (C m : Str) (d : List T → FR) (as : M (List Vl)) (x : Vl) : kMe C m d as (.ok x ρ) = kMe2 C m d as (fixV ρ x) := nr rfl
theorem kMe2_ok {C m : Str} {d : List T → FR} {as : M (List Vl)} {gs : List (Str × T)} (h : gs.lookup m = none) : kMe2 C m d as (some (.obj C gs, ρ)) = kMe3 (.obj C gs) d (as ρ) := if_pos ⟨rfl, h⟩
theorem kMe3_ok (t : T) (d : List T → FR) (xs : List Vl) : kMe3 t d (.ok xs ρ) = kCall2 (fun ts => d (t :: ts)) (fixA ρ xs) := nr rfl
theorem go_dc0 : eDc0 ρ = .ok (.own (.dct [])) ρ := nr rfl
theorem oDG_i {gs : List (Key × T)} {i : Int} {u : T} (h : getD gs (.inl i) = some u) : oDG (.dct gs) (.int i) = some (.val u) := by
  unfold oDG
  simp only [keyT, h]
theorem oDG_s {gs : List (Key × T)} {x : Str} {u : T} (h : getD gs (.inr x) = some u) : oDG (.dct gs) (.str x) = some (.val u) := by
  unfold oDG
  simp only [keyT, h]
theorem oDI_i (gs : List (Key × T)) (i : Int) : oDI false (.int i) (.dct gs) = some (.val (.bl (getD gs (.inl i)).isSome)) := nr rfl
theorem oDN_i (gs : List (Key × T)) (i : Int) : oDI true (.int i) (.dct gs) = some (.val (.bl (!(getD gs (.inl i)).isSome))) := nr rfl
def kDP (i : Nat) (g : M Vl) (r : Res Vl) : Out := after r fun x ρ1 => match fixV ρ1 x with
  | some (t, ρ2) => match dctAt ρ2 i with
    | some _ => after (g ρ2) fun y ρ3 => (match keyO (rdV ρ3 y) with
      | some k => (match dctAt ρ3 i with
        | some (z, gs) => if gs.length < 16777216 then .nx (ρ3.set i (z.rep (.dct (putD gs k t)))) else .bot
        | none => .bot)
      | none => .bot)
    | none => .bot
  | none => .bot
def kDP2 (i : Nat) (g : M Vl) (o : Option (T × R)) : Out := match o with
  | some (t, ρ2) => match dctAt ρ2 i with
    | some _ => after (g ρ2) fun y ρ3 => (match keyO (rdV ρ3 y) with
      | some k => (match dctAt ρ3 i with
        | some (z, gs) => if gs.length < 16777216 then .nx (ρ3.set i (z.rep (.dct (putD gs k t)))) else .bot
        | none => .bot)
      | none => .bot)
    | none => .bot
  | none => .bot
def kDP3 (i : Nat) (g : M Vl) (t : T) (ρ2 : R) (o : Option (SV × List (Key × T))) : Out := match o with
    | some _ => after (g ρ2) fun y ρ3 => (match keyO (rdV ρ3 y) with
      | some k => (match dctAt ρ3 i with
        | some (z, gs) => if gs.length < 16777216 then .nx (ρ3.set i (z.rep (.dct (putD gs k t)))) else .bot
        | none => .bot)
      | none => .bot)
    | none => .bot
def kDP4 (i : Nat) (t : T) (r : Res Vl) : Out := after r fun y ρ3 => (match keyO (rdV ρ3 y) with
      | some k => (match dctAt ρ3 i with
        | some (z, gs) => if gs.length < 16777216 then .nx (ρ3.set i (z.rep (.dct (putD gs k t)))) else .bot
        | none => .bot)
      | none => .bot)
def kDP5 (i : Nat) (t : T) (ρ3 : R) (o : Option Key) : Out := match o with
      | some k => (match dctAt ρ3 i with
        | some (z, gs) => if gs.length < 16777216 then .nx (ρ3.set i (z.rep (.dct (putD gs k t)))) else .bot
        | none => .bot)
      | none => .bot
def kDP6 (i : Nat) (t : T) (ρ3 : R) (k : Key) (o : Option (SV × List (Key × T))) : Out := match o with
        | some (z, gs) => if gs.length < 16777216 then .nx (ρ3.set i (z.rep (.dct (putD gs k t)))) else .bot
        | none => .bot
theorem go_dput (i : Nat) (g f : M Vl) : sDPutS i g f ρ = kDP i g (f ρ) := nr rfl
theorem kDP_ok (i : Nat) (g : M Vl) (x : Vl) : kDP i g (.ok x ρ) = kDP2 i g (fixV ρ x) := nr rfl
theorem kDP2_ok (i : Nat) (g : M Vl) (t : T) : kDP2 i g (some (t, ρ)) = kDP3 i g t ρ (dctAt ρ i) := nr rfl
theorem kDP3_ok (i : Nat) (g : M Vl) (t : T) (p : SV × List (Key × T)) : kDP3 i g t ρ (some p) = kDP4 i t (g ρ) := nr rfl
theorem kDP4_ok (i : Nat) (t : T) (y : Vl) : kDP4 i t (.ok y ρ) = kDP5 i t ρ (keyO (rdV ρ y)) := nr rfl
theorem kDP5_ok (i : Nat) (t : T) (k : Key) : kDP5 i t ρ (some k) = kDP6 i t ρ k (dctAt ρ i) := nr rfl
theorem kDP6_ok {i : Nat} {t : T} {k : Key} {z : SV} {gs : List (Key × T)} (h : gs.length < 16777216) : kDP6 i t ρ k (some (z, gs)) = .nx (ρ.set i (z.rep (.dct (putD gs k t)))) := if_pos h
theorem keyO_int (i : Int) : keyO (some (.int i)) = some (.inl i) := nr rfl
theorem keyO_str (x : Str) : keyO (some (.str x)) = some (.inr x) := nr rfl
def kDA (o : Option SV) : Option (SV × List (Key × T)) := match o with
  | some (.ow (.dct gs)) => some (.ow (.dct gs), gs)
  | some (.io (.dct gs)) => some (.io (.dct gs), gs)
  | _ => none
theorem go_dctAt (i : Nat) : dctAt ρ i = kDA ρ[i]? := nr rfl
theorem kDA_ow (gs : List (Key × T)) : kDA (some (.ow (.dct gs))) = some (.ow (.dct gs), gs) := nr rfl
theorem kDA_io (gs : List (Key × T)) : kDA (some (.io (.dct gs))) = some (.io (.dct gs), gs) := nr rfl
def kDc (h : T → R → Option R) (c : M Bool) (ek ev : M Vl) (vs : List Nat) (r : Res (List T)) : Res Vl := bindR r fun ts ρ1 => if noAt ρ1 vs = true then dcL h c ek ev vs ts [] ρ1 else .bot
def cDc (h : T → R → Option R) (c : M Bool) (ek ev : M Vl) (vs : List Nat) (ts : List T) (ρ : R) (k : Bool) : Res Vl := if k = true then dcL h c ek ev vs ts [] ρ else .bot
theorem go_dc (its : M (List T)) (h : T → R → Option R) (c : M Bool) (ek ev : M Vl) (vs : List Nat) : eDc its h c ek ev vs ρ = kDc h c ek ev vs (its ρ) := nr rfl
theorem kDc_ok (h : T → R → Option R) (c : M Bool) (ek ev : M Vl) (vs : List Nat) (ts : List T) : kDc h c ek ev vs (.ok ts ρ) = cDc h c ek ev vs ts ρ (noAt ρ vs) := nr rfl
theorem cDc_t (h : T → R → Option R) (c : M Bool) (ek ev : M Vl) (vs : List Nat) (ts : List T) : cDc h c ek ev vs ts ρ true = dcL h c ek ev vs ts [] ρ := nr rfl
/-- one item -/
def dc1 (h : T → R → Option R) (c : M Bool) (ek ev : M Vl) (vs : List Nat) (t : T) (ρ : R) : Option (Option (Key × T) × R) := match h t ρ with
  | some ρ1 => match c ρ1 with
    | .ok k ρ2 => if k = true then (match ek ρ2 with
      | .ok x ρ3 => match keyO (rdV ρ3 x) with
        | some key => (match ev ρ3 with
          | .ok z ρ6 => match fixV ρ6 z with
            | some (u, ρ4) => match wipeR vs ρ4 with
              | some ρ5 => some (some (key, u), ρ5)
              | none => none
            | none => none
          | _ => none)
        | none => none
      | _ => none) else (match wipeR vs ρ2 with
        | some ρ5 => some (none, ρ5)
        | none => none)
    | _ => none
  | none => none
def putO (o : Option (Key × T)) (acc : List (Key × T)) : List (Key × T) := match o with
  | some (k, u) => putD acc k u
  | none => acc
/-- what dc1 makes, step by step -/
def kD1 (h : Option R) (c : M Bool) (ek ev : M Vl) (vs : List Nat) : Option (Option (Key × T) × R) := match h with
  | some ρ1 => match c ρ1 with
    | .ok k ρ2 => if k = true then (match ek ρ2 with
      | .ok x ρ3 => match keyO (rdV ρ3 x) with
        | some key => (match ev ρ3 with
          | .ok z ρ6 => match fixV ρ6 z with
            | some (u, ρ4) => match wipeR vs ρ4 with
              | some ρ5 => some (some (key, u), ρ5)
              | none => none
            | none => none
          | _ => none)
        | none => none
      | _ => none) else (match wipeR vs ρ2 with
        | some ρ5 => some (none, ρ5)
        | none => none)
    | _ => none
  | none => none
def kD2 (ek ev : M Vl) (vs : List Nat) (r : Res Bool) : Option (Option (Key × T) × R) := match r with
    | .ok k ρ2 => if k = true then (match ek ρ2 with
      | .ok x ρ3 => match keyO (rdV ρ3 x) with
        | some key => (match ev ρ3 with
          | .ok z ρ6 => match fixV ρ6 z with
            | some (u, ρ4) => match wipeR vs ρ4 with
              | some ρ5 => some (some (key, u), ρ5)
              | none => none
            | none => none
          | _ => none)
        | none => none
      | _ => none) else (match wipeR vs ρ2 with
        | some ρ5 => some (none, ρ5)
        | none => none)
    | _ => none
def kD3 (ev : M Vl) (vs : List Nat) (r : Res Vl) : Option (Option (Key × T) × R) := match r with
      | .ok x ρ3 => match keyO (rdV ρ3 x) with
        | some key => (match ev ρ3 with
          | .ok z ρ6 => match fixV ρ6 z with
            | some (u, ρ4) => match wipeR vs ρ4 with
              | some ρ5 => some (some (key, u), ρ5)
              | none => none
            | none => none
          | _ => none)
        | none => none
      | _ => none
def kD4 (ev : M Vl) (vs : List Nat) (ρ3 : R) (o : Option Key) : Option (Option (Key × T) × R) := match o with
        | some key => (match ev ρ3 with
          | .ok z ρ6 => match fixV ρ6 z with
            | some (u, ρ4) => match wipeR vs ρ4 with
              | some ρ5 => some (some (key, u), ρ5)
              | none => none
            | none => none
          | _ => none)
        | none => none
def kD5 (key : Key) (vs : List Nat) (r : Res Vl) : Option (Option (Key × T) × R) := match r with
          | .ok z ρ6 => match fixV ρ6 z with
            | some (u, ρ4) => match wipeR vs ρ4 with
              | some ρ5 => some (some (key, u), ρ5)
              | none => none
            | none => none
          | _ => none
def kD6 (key : Key) (vs : List Nat) (o : Option (T × R)) : Option (Option (Key × T) × R) := match o with
            | some (u, ρ4) => match wipeR vs ρ4 with
              | some ρ5 => some (some (key, u), ρ5)
              | none => none
            | none => none
def kD7 (p : Option (Key × T)) (o : Option R) : Option (Option (Key × T) × R) := match o with
              | some ρ5 => some (p, ρ5)
              | none => none
theorem go_dc1 (h : T → R → Option R) (c : M Bool) (ek ev : M Vl) (vs : List Nat) (t : T) : dc1 h c ek ev vs t ρ = kD1 (h t ρ) c ek ev vs := nr rfl
theorem kD1_ok (c : M Bool) (ek ev : M Vl) (vs : List Nat) : kD1 (some ρ) c ek ev vs = kD2 ek ev vs (c ρ) := nr rfl
theorem kD2_t (ek ev : M Vl) (vs : List Nat) : kD2 ek ev vs (.ok true ρ) = kD3 ev vs (ek ρ) := nr rfl
theorem kD2_f (ek ev : M Vl) (vs : List Nat) : kD2 ek ev vs (.ok false ρ) = kD7 none (wipeR vs ρ) := nr rfl
theorem kD3_ok (ev : M Vl) (vs : List Nat) (x : Vl) : kD3 ev vs (.ok x ρ) = kD4 ev vs ρ (keyO (rdV ρ x)) := nr rfl
theorem kD4_ok (ev : M Vl) (vs : List Nat) (k : Key) : kD4 ev vs ρ (some k) = kD5 k vs (ev ρ) := nr rfl
theorem kD5_ok (k : Key) (vs : List Nat) (x : Vl) : kD5 k vs (.ok x ρ) = kD6 k vs (fixV ρ x) := nr rfl
theorem kD6_ok (k : Key) (vs : List Nat) (t : T) : kD6 k vs (some (t, ρ)) = kD7 (some (k, t)) (wipeR vs ρ) := nr rfl
theorem kD7_ok (p : Option (Key × T)) : kD7 p (some ρ) = some (p, ρ) := nr rfl
def kLD (i : Nat) (wv : List Nat) (h : T → R → Option R) (c : M Bool) (e : M Vl) (vs : List Nat) (ρ : R) (o : Option SV) : Res Vl := match o with
  | some (.ow (.dct gs)) => (match eLc (iW wv fun ρ => .ok (keysT gs) ρ) h c e vs (ρ.set i .no) with
    | .ok x ρ' => (match ρ'[i]? with
      | some .no => .ok x (ρ'.set i (.ow (.dct gs)))
      | _ => .bot)
    | _ => .bot)
  | _ => .bot
def kLD2 (i : Nat) (gs : List (Key × T)) (r : Res Vl) : Res Vl := match r with
    | .ok x ρ' => (match ρ'[i]? with
      | some .no => .ok x (ρ'.set i (.ow (.dct gs)))
      | _ => .bot)
    | _ => .bot
def kLD3 (i : Nat) (gs : List (Key × T)) (x : Vl) (ρ' : R) (o : Option SV) : Res Vl := match o with
      | some .no => .ok x (ρ'.set i (.ow (.dct gs)))
      | _ => .bot
def iKs (gs : List (Key × T)) : M (List T) := fun ρ => .ok (keysT gs) ρ
theorem go_iKs (gs : List (Key × T)) : iKs gs ρ = .ok (keysT gs) ρ := nr rfl
theorem go_lcD (i : Nat) (wv : List Nat) (h : T → R → Option R) (c : M Bool) (e : M Vl) (vs : List Nat) : eLcD i wv h c e vs ρ = kLD i wv h c e vs ρ ρ[i]? := nr rfl
theorem kLD_ok (i : Nat) (wv : List Nat) (h : T → R → Option R) (c : M Bool) (e : M Vl) (vs : List Nat) (gs : List (Key × T)) : kLD i wv h c e vs ρ (some (.ow (.dct gs))) = kLD2 i gs (eLc (iW wv (iKs gs)) h c e vs (ρ.set i .no)) := nr rfl
theorem kLD2_ok (i : Nat) (gs : List (Key × T)) (x : Vl) : kLD2 i gs (.ok x ρ) = kLD3 i gs x ρ ρ[i]? := nr rfl
theorem kLD3_ok (i : Nat) (gs : List (Key × T)) (x : Vl) : kLD3 i gs x ρ (some .no) = .ok x (ρ.set i (.ow (.dct gs))) := nr rfl
def kCt (g : M Vl) (r : Res Vl) : Res Vl := bindR r fun x ρ1 => match fixV ρ1 x with
  | some (.lst ts, ρ2) => bindR (g ρ2) fun y ρ3 => opt (ap2 oCntD (some (.lst ts)) (rdV ρ3 y)) ρ3
  | _ => .bot
def kCt2 (g : M Vl) (o : Option (T × R)) : Res Vl := match o with
  | some (.lst ts, ρ2) => bindR (g ρ2) fun y ρ3 => opt (ap2 oCntD (some (.lst ts)) (rdV ρ3 y)) ρ3
  | _ => .bot
def kCt3 (ts : List T) (r : Res Vl) : Res Vl := bindR r fun y ρ3 => opt (ap2 oCntD (some (.lst ts)) (rdV ρ3 y)) ρ3
theorem go_count (f g : M Vl) : eCount f g ρ = kCt g (f ρ) := nr rfl
theorem kCt_ok (g : M Vl) (x : Vl) : kCt g (.ok x ρ) = kCt2 g (fixV ρ x) := nr rfl
theorem kCt2_ok (g : M Vl) (ts : List T) : kCt2 g (some (.lst ts, ρ)) = kCt3 ts (g ρ) := nr rfl
theorem kCt3_ok (ts : List T) (y : Vl) : kCt3 ts (.ok y ρ) = opt (ap2 oCntD (some (.lst ts)) (rdV ρ y)) ρ := nr rfl
def kP2 (i j : Nat) (c d : OC) (ρ : R) (o p : Option SV) : Out := match o, p with
  | some y, some z => if y.isIo = false ∧ z.isIo = false ∧ i ≠ j then .nx ((ρ.set i (.ow c)).set j (.ow d)) else .bot
  | _, _ => .bot
theorem go_par2 (i j : Nat) (c d : OC) : sPar2 i j c d ρ = kP2 i j c d ρ ρ[i]? ρ[j]? := nr rfl
theorem kP2_ok {i j : Nat} {c d : OC} {y z : SV} (h1 : y.isIo = false) (h2 : z.isIo = false) (h3 : i ≠ j) : kP2 i j c d ρ (some y) (some z) = .nx ((ρ.set i (.ow c)).set j (.ow d)) := if_pos ⟨h1, h2, h3⟩
def kP3 (i j l : Nat) (o : Option (List T × R)) : Out := match o with
  | some ([t, u, w], ρ2) => (match gN i t ρ2 with
    | some ρ3 => (match gN j u ρ3 with
      | some ρ4 => (match gN l w ρ4 with
        | some ρ5 => .nx ρ5
        | none => .bot)
      | none => .bot)
    | none => .bot)
  | _ => .bot
def kP3a (j l : Nat) (u w : T) (o : Option R) : Out := match o with
    | some ρ3 => (match gN j u ρ3 with
      | some ρ4 => (match gN l w ρ4 with
        | some ρ5 => .nx ρ5
        | none => .bot)
      | none => .bot)
    | none => .bot
def kP3b (l : Nat) (w : T) (o : Option R) : Out := match o with
      | some ρ4 => (match gN l w ρ4 with
        | some ρ5 => .nx ρ5
        | none => .bot)
      | none => .bot
def kP3c (r : Res (List Vl)) (i j l : Nat) : Out := after r fun xs ρ1 => kP3 i j l (fixA ρ1 xs)
theorem go_par3 (i j l : Nat) (as : M (List Vl)) : sPar3 i j l as ρ = kP3c (as ρ) i j l := nr rfl
theorem kP3c_ok (i j l : Nat) (xs : List Vl) : kP3c (.ok xs ρ) i j l = kP3 i j l (fixA ρ xs) := nr rfl
theorem kP3_ok (i j l : Nat) (t u w : T) : kP3 i j l (some ([t, u, w], ρ)) = kP3a j l u w (gN i t ρ) := nr rfl
theorem kP3a_ok (j l : Nat) (u w : T) : kP3a j l u w (some ρ) = kP3b l w (gN j u ρ) := nr rfl
theorem kP3b_ok (l : Nat) (w : T) : kP3b l w (some ρ) = kPH (gN l w ρ) := nr rfl
def kLm2 (dR : Str → List (Str × T) → Option Vl) (r : Res Vl) : Res Vl := match r with
  | .ok x ρ1 => (match fixV ρ1 x with
    | some (t, ρ2) => (match bRepr [t] with
      | some (.val (.str s)) => .ok (.val (.tup [.str "told", .str s])) ρ2
      | _ => .bot)
    | none => .bot)
  | .ex C fs ρ1 => (match dR C fs with
    | some y => okV y ρ1
    | none => .bot)
  | .bot => .bot
def kLm3 (o : Option (T × R)) : Res Vl := match o with
    | some (t, ρ2) => (match bRepr [t] with
      | some (.val (.str s)) => .ok (.val (.tup [.str "told", .str s])) ρ2
      | _ => .bot)
    | none => .bot
def kLm4 (ρ2 : R) (o : Option Vl) : Res Vl := match o with
      | some (.val (.str s)) => .ok (.val (.tup [.str "told", .str s])) ρ2
      | _ => .bot
def kLm5 (ρ1 : R) (o : Option Vl) : Res Vl := match o with
    | some y => okV y ρ1
    | none => .bot
theorem go_lam2 (dR : Str → List (Str × T) → Option Vl) (f : M Vl) : eLam2 dR f ρ = kLm2 dR (f ρ) := nr rfl
theorem kLm2_ok (dR : Str → List (Str × T) → Option Vl) (x : Vl) : kLm2 dR (.ok x ρ) = kLm3 (fixV ρ x) := nr rfl
theorem kLm2_ex (dR : Str → List (Str × T) → Option Vl) (C : Str) (fs : List (Str × T)) : kLm2 dR (.ex C fs ρ) = kLm5 ρ (dR C fs) := nr rfl
theorem kLm3_ok (t : T) : kLm3 (some (t, ρ)) = kLm4 ρ (bRepr [t]) := nr rfl
theorem kLm4_ok (s : Str) : kLm4 ρ (some (.val (.str s))) = .ok (.val (.tup [.str "told", .str s])) ρ := nr rfl
theorem kLm5_val (t : T) : kLm5 ρ (some (.val t)) = .ok (.val t) ρ := nr rfl
theorem kOp_ex (g : T → T → Option Vl) (h : M Vl) (C : Str) (fs : List (Str × T)) : kOp g h (.ex C fs ρ) = .ex C fs ρ := nr rfl
theorem kUn_ex (g : T → Option Vl) (C : Str) (fs : List (Str × T)) : kUn g (.ex C fs ρ) = .ex C fs ρ := nr rfl
theorem kB_ex (g : List T → Option Vl) (C : Str) (fs : List (Str × T)) : kB g (.ex C fs ρ) = .ex C fs ρ := nr rfl
theorem kAC_ex (g : M (List Vl)) (C : Str) (fs : List (Str × T)) : kAC g (.ex C fs ρ) = .ex C fs ρ := nr rfl
def kBT (g : List Bool → Bool) (o : Option (List Bool)) : Option Vl := match o with
    | some bs => some (.val (.bl (g bs)))
    | none => none
theorem go_bTs (g : List Bool → Bool) (ts : List T) : bTs g [.lst ts] = kBT g (blTs ts) := nr rfl
theorem kBT_ok (g : List Bool → Bool) (bs : List Bool) : kBT g (some bs) = some (.val (.bl (g bs))) := nr rfl
theorem blTs_map : ∀ bs : List Bool, blTs (bs.map T.bl) = some bs
  | [] => rfl
  | b :: bs => by
    show (match blTs (bs.map T.bl) with | some bs => some (b :: bs) | none => none) = _
    rw [blTs_map bs]
def kBI (g : List Int → Option Int) (o : Option (List Int)) : Option Vl := match o with
    | some ns => (match g ns with
      | some i => some (.val (.int i))
      | none => none)
    | none => none
def kBI2 (o : Option Int) : Option Vl := match o with
      | some i => some (.val (.int i))
      | none => none
theorem go_bIs (g : List Int → Option Int) (ts : List T) : bIs g [.lst ts] = kBI g (inT ts) := nr rfl
theorem kBI_ok (g : List Int → Option Int) (ns : List Int) : kBI g (some ns) = kBI2 (g ns) := nr rfl
theorem kBI2_ok (i : Int) : kBI2 (some i) = some (.val (.int i)) := nr rfl
theorem bBool_int (i : Int) : bBool [.int i] = some (.val (.bl (i != 0))) := nr rfl
theorem bBool_bl (b : Bool) : bBool [.bl b] = some (.val (.bl b)) := nr rfl
theorem bStrI_ok {i : Int} (h : i.natAbs.log2 < 1920) : bStrI [.int i] = some (.val (.str (toString i))) := if_pos h
end
end MX
set_option Elab.async false
set_option linter.all false
set_option maxRecDepth 100000
set_option maxHeartbeats 4000000
namespace MX
open PySem PySem.Spec PyProof.Rows L2 GX
section
variable [TabL] {K : PySem.W.Frag} {E : XS} {B : Bs} {G G1 G' H H1 H' : Hp} {σ : L2.St} {ρ ρ' : R}
theorem Vw.strE {v : V} {x : Str} (h : Vw K G H v (.str x)) : v = .str x := by
  generalize ht : T.str x = t at h
  cases h with
  | fz r =>
    subst ht
    cases r
    rfl
  | own e r => cases r <;> cases ht
def eM0 (g : Str → Option T) (o : M Vl) : M Vl := fun ρ => bindR (o ρ) fun x ρ1 => match rdV ρ1 x with
  | some (.str a) => (match g a with
    | some t => .ok (.val t) ρ1
    | none => .bot)
  | _ => .bot
def eM1 (g : Str → Str → Option T) (o f : M Vl) : M Vl := fun ρ => bindR (o ρ) fun x ρ1 => match rdV ρ1 x with
  | some (.str a) => bindR (f ρ1) fun y ρ2 => (match rdV ρ2 y with
    | some (.str b) => (match g a b with
      | some t => .ok (.val t) ρ2
      | none => .bot)
    | _ => .bot)
  | _ => .bot
/-- a.partition(b) -/
def ePart (o f : M Vl) : M Vl := fun ρ => bindR (o ρ) fun x ρ1 => match rdV ρ1 x with
  | some (.str a) => bindR (f ρ1) fun y ρ2 => (match rdV ρ2 y with
    | some (.str b) => if (b.length == 0) = false ∧ a.length ≤ sizeLine then .ok (.val (.tup [.str (Txt.partition a b).1, .str (Txt.partition a b).2.1, .str (Txt.partition a b).2.2])) ρ2 else .bot
    | _ => .bot)
  | _ => .bot
/-- a.split(b) -/
def eSplit (o f : M Vl) : M Vl := fun ρ => bindR (o ρ) fun x ρ1 => match rdV ρ1 x with
  | some (.str a) => bindR (f ρ1) fun y ρ2 => (match rdV ρ2 y with
    | some (.str b) => if (b.length == 0) = false ∧ a.length + 2 ≤ sizeLine then .ok (.own (.lst ((Txt.split a b).map T.str))) ρ2 else .bot
    | _ => .bot)
  | _ => .bot
def oIxS : T → T → Option Vl
  | .str z, .int i => if z.length ≤ sizeLine then (match atI z.cps.toList i with
    | some c => some (.val (.str ⟨#[c]⟩))
    | none => none) else none
  | _, _ => none
def bGcd : List T → Option Vl
  | [.int a, .int b] => some (.val (.int ((Nat.gcd a.natAbs b.natAbs : Nat) : Int)))
  | _ => none
theorem cm_gcd : CallM K rGcd bGcd := fun B G H σ ρ vs ts z Q h r e q => by
  unfold bGcd at e
  split at e
  · next a b =>
    cases e
    cases r with
    | @cons v _ us _ r1 r2 =>
      cases r2 with
      | @cons v2 _ us2 _ r3 r4 =>
        cases r4
        obtain rfl := r1.int
        obtain rfl := r3.int
        exact ⟨a, b, rfl, q _ _ _ (Same.refl G) h (.int _)⟩
  · cases e
def bIntS : List T → Option Vl
  | [.str a] => if a.length ≤ 640 then (match PySem.intText? a with
    | some n => some (.val (.int n))
    | none => none) else none
  | _ => none
def slS (lo hi : Option Int) : T → Option Vl
  | .str z => if z.length ≤ sizeLine then some (.val (.str (Txt.slice z lo hi))) else none
  | _ => none
def eSlS (f : M Vl) (l h : M (Option Int)) : M Vl := fun ρ => bindR (f ρ) fun x ρ1 => bindR (l ρ1) fun lo ρ2 => bindR (h ρ2) fun hi ρ3 => opt (ap1 (slS lo hi) (rdV ρ3 (stl x))) ρ3
def sgT (z : Str) : List T := z.cps.toList.map fun c => T.str ⟨#[c]⟩
def iSg (f : M Vl) : M (List T) := fun ρ => bindR (f ρ) fun x ρ1 => match rdV ρ1 x with
  | some (.str z) => .ok (sgT z) ρ1
  | _ => .bot
def fmtT : T → Option Vl
  | .str y => if y.length ≤ sizeLine then some (.val (.str y)) else none
  | .int i => if i.natAbs.log2 < 1920 then some (.val (.str (toString i))) else none
  | _ => none
theorem me_fmt {te : TE} {f : M Vl} (he : ME K E te f) : ME K E (tFmt te) (eUn fmtT f) := by
  refine me_un' (r := fun x H1 Q => (∃ y : Str, x = .str y ∧ y.length ≤ sizeLine ∧ Q (.str y) H1) ∨ ∃ i : Int, x = .int i ∧ i.natAbs.log2 < 1920 ∧ Q (.str (toString i)) H1) (fun B G H σ ρ x tx z Q h vx e q => ?_) he
  unfold fmtT at e
  split at e
  · next y =>
    split at e
    · next hl =>
      cases e
      obtain rfl := vx.strE
      exact .inl ⟨y, rfl, hl, q _ G H (Same.refl G) h (.str _)⟩
    · cases e
  · next i =>
    split at e
    · next hl =>
      cases e
      obtain rfl := vx.int
      exact .inr ⟨i, rfl, hl, q _ G H (Same.refl G) h (.str _)⟩
    · cases e
  · cases e
def eJs : List (M Vl) → Str → M Vl
  | [], acc => fun ρ => .ok (.val (.str acc)) ρ
  | f :: fs, acc => fun ρ => bindR (f ρ) fun x ρ1 => match rdV ρ1 x with
    | some (.str y) => if (acc ++ y).length ≤ sizeLine then eJs fs (acc ++ y) ρ1 else .bot
    | _ => .bot
inductive MJ (K : PySem.W.Frag) (E : XS) : List TE → List (M Vl) → Prop
  | nil : MJ K E [] []
  | cons {t : TE} {f : M Vl} {ts : List TE} {fs : List (M Vl)} : ME K E t f → MJ K E ts fs → MJ K E (t :: ts) (f :: fs)
theorem mj_run {ts : List TE} {fs : List (M Vl)} (h : MJ K E ts fs) : ∀ (acc : Str) B G H σ ρ (Q : VK), RS K B G H σ ρ → Wn K E B G σ Q (eJs fs acc ρ) → tJs ts acc σ H (fun out H1 => Q (.str out) H1) := by
  induction h with
  | nil => exact fun acc B G H σ ρ Q hs w => w _ G H (Same.refl G) hs (.str _)
  | @cons t f ts fs hf hr ih =>
    intro acc B G H σ ρ Q hs w
    refine hf B G H σ ρ _ hs (WnP.imp (WnP.bind w) (Same.refl G) fun x ρ1 w1 v1 G1 H1 s1 h1 q1 => ?_)
    split at w1
    · next y ey =>
      obtain rfl := (rd_ok h1 q1 ey).strE
      split at w1
      · next hl => exact ⟨y, rfl, hl, ih (acc ++ y) B G1 H1 σ ρ1 Q h1 (WnP.imp w1 s1 fun x2 ρ2 w2 v2 G2 H2 s2 => w2 v2 G2 H2 (s1.trans s2))⟩
      · cases w1
    · cases w1
theorem me_js {ts : List TE} {fs : List (M Vl)} (h : MJ K E ts fs) : ME K E (fun σ H Q => tJs ts Str.empty σ H fun out H1 => Q (.str out) H1) (eJs fs Str.empty) := fun B G H σ ρ Q hs w => mj_run h _ B G H σ ρ Q hs w
end
end MX
set_option Elab.async false
set_option linter.all false
set_option maxRecDepth 100000
set_option maxHeartbeats 4000000
namespace MX
open PySem PySem.Spec PyProof.Rows L2 GX
section
variable [TabL] {K : PySem.W.Frag} {E : XS} {B : Bs} {G G1 G' H H1 H' : Hp} {σ : L2.St} {ρ ρ' : R}
def eCh3 (g g' g'' : T → T → Option Vl) (f h c d : M Vl) : M Vl := fun ρ => bindR (f ρ) fun x ρ1 => bindR (h ρ1) fun y ρ2 => match ap2 g (rdV ρ2 (stl x)) (rdV ρ2 (stl y)) with
  | some (.val (.bl k)) => if k = true then bindR (c ρ2) fun z ρ3 => (match ap2 g' (rdV ρ3 (stl y)) (rdV ρ3 (stl z)) with
    | some (.val (.bl k')) => if k' = true then bindR (d ρ3) fun u ρ4 => opt (ap2 g'' (rdV ρ4 (stl z)) (rdV ρ4 u)) ρ4 else .ok (.val (.bl false)) ρ3
    | _ => .bot) else .ok (.val (.bl false)) ρ2
  | _ => .bot
def sTry (C : Str) (b : S) (dT : List (Str × T) → R → Out) : S := fun ρ => match b ρ with
  | .ex C' fs ρ1 => if C' = C then dT fs ρ1 else .bot
  | o => o
end
end MX
set_option Elab.async false
set_option linter.all false
set_option maxRecDepth 100000
set_option maxHeartbeats 4000000
namespace NIx
open PySem PySem.Spec PyProof.Rows L2 GX
section
variable {X : Cx} {CX : CXT} {k i : Nat} {f C g p : Addr} {mc : Value} {sp : Sp} {E : L2.St → XK} {x m : Str} {pos pp apos : Pos} {e o : Expr} {es : List Expr} {t : TA} {ta : TE} {pl : Sem Bool} {pins : List (Addr × Obj)} {σ : L2.St} {H : Hp} {s : Shared}
theorem run_makeRS {Q : VK} {us : List Value} {vs : List V} {E : XK} (M : Mk X.K C f) (F : FnR X.prog X.w X.K X.mg X.base CX k f sp) (hr : Room (k + 1) X.A) (hx : PassesAt CX X σ E) (I : Inv X pins σ H s) (r : Vals vs us)
    (h : ∀ x dx, H x = none → H dx = none → dx ≠ x → sp (.ref x :: vs) (upd (upd H dx (.own x)) x (.ins C dx [])) (fun v H2 => v = .non ∧ Q (.ref x) H2) E) :
    wpAny (model X.prog X.w) X.A (call (.ref C) us) (EP X pins σ Q) X.xe s := by
  have hq := h (s.heap.objs.size + 1) s.heap.objs.size (I.hok.fresh (Nat.le_succ _)) (I.hok.fresh (Nat.le_refl _)) (Nat.ne_of_lt (Nat.lt_succ_self _))
  have I2 := Inv.made (C := C) I
  have r2 : Vals (V.ref (s.heap.objs.size + 1) :: vs) (Value.ref (s.heap.objs.size + 1) :: us) := .cons rfl r
  refine wpAny_call (make_map (f := f) I.kIn M.makes M.init (beq_iff_eq.mp M.fn) (codeAny_mono (F _ X.stack _ _ (Value.ref (s.heap.objs.size + 1) :: us) _ _ E (hr.make C us []) (I2.env0.make C us []) r2 hq) fun r s' hq' => ?_))
  cases r with
  | error e => exact hx pins _ _ e s' I2 hq'
  | ok fl =>
    cases fl with
    | ret u =>
      obtain ⟨v, H', I3, rv, ev, q3⟩ := I2.after hq'
      subst ev
      exact ⟨rv, ⟨V.ref (s.heap.objs.size + 1), H', I3, rfl, q3⟩⟩
    | next => exact False.elim hq'
    | brk => exact False.elim hq'
    | cont => exact False.elim hq'
def tMakeS (C : Addr) (sp : Sp) (E : L2.St → XK) (t : TA) : TE := fun σ H Q => t σ H fun vs H1 => ∀ x dx, H1 x = none → H1 dx = none → dx ≠ x →
  sp (.ref x :: vs) (upd (upd H1 dx (.own x)) x (.ins C dx [])) (fun v H2 => v = .non ∧ Q (.ref x) H2) (E σ)
theorem pe_makeS (M : Mk X.K C f) (F : FnR X.prog X.w X.K X.mg X.base CX k f sp) (hr : Room (k + 1) X.A) (hg : Gl X x) (hm : X.mg x = some (.ref C)) (hx : ∀ σ, PassesAt CX X σ (E σ))
    (ha : PA X (e :: es) t) (hdb : (x == ("__debug__" : Str)) = false := by decide) (he : starEach (e :: es) X.env = (false, eval e X.env) :: starEach es X.env := by rfl) (hpl : (backTo pos (starEach es X.env)).any (·.1) = false := by rfl) :
    PE X (.Call (.Name x pp) (e :: es) [] pos) (tMakeS C sp E t) := by
  refine ⟨fun pins s σ H Q I h => ?_⟩
  refine wpAny_Call_Name_kw (ld_glob I hg hm ?_ hdb)
  refine PySem.W.callWith_K (h₀ := X.base) I.ok.mod.kin M.kp (thn (ha.run pos pins s σ H _ I h) fun us s1 ⟨vs, H1, I1, r, q⟩ => ⟨I1.kIn, ?_⟩) he hpl
  exact run_makeRS M F hr (hx σ) I1 r q
end
end NIx
namespace MX
open PySem PySem.Spec PyProof.Rows L2 GX
section
variable [TabL] {K : PySem.W.Frag} {E : XS} {B : Bs} {G G1 G' H H1 H' : Hp} {σ : L2.St} {ρ ρ' : R}
/-- C(..), the arguments that are not given ones td -/
theorem me_makeS {E' : L2.St → XK} {C : Str} {c : Addr} {ta : TA} {d : OC → List T → FR} {as : M (List Vl)} {dvs : List V} {td : List T} (n : nm K C = c) (hd : ∀ G, Reps K G dvs td)
    (hE : (∀ σ C d H, E σ C d H → E' σ C d H) ∨ ∀ c ts C fs c', d c ts ≠ .ex C fs c') (ha : MA K E ta as) :
    ME K E (NIx.tMakeS c (fun vs H Q E => spI K d (vs ++ dvs) H Q E) E' ta) (eMake C (fun c ts => d c (ts ++ td)) as) := fun B G H σ ρ Q h w => by
  subst n
  refine ha B G H σ ρ _ h (WnP.imp (WnP.bind w) (Same.refl G) fun xs ρ1 w1 vs G1 H1 s1 h1 q1 => ?_)
  split at w1
  · next ts ρ2 e2 =>
    dsimp only at w1
    obtain ⟨G2, s2, h2, r2⟩ := fixA_ok h1 q1 e2
    intro x dx hx hdx ne
    have h3 := h2.made (o := .own x) hdx
    have hx3 : upd H1 dx (.own x) x = none := by
      rw [upd_ne (fun z => ne z.symm)]
      exact hx
    have h4 := h3.made (o := .ins (nm K C) dx []) hx3
    have gx : G2 x = none := h2.sub.free hx
    have no : ∀ i, ¬ OwnAt σ ρ2 i x := fun i => h2.notOwn hx i
    have fr : B.O x ∨ B.H x = none := .inr (h2.all x hx)
    refine ⟨G2, x, .ins C [], vs ++ dvs, ts ++ td, rfl, h4.sub, ⟨h4.tb, h4.nt⟩, ⟨x, _, rfl, upd_same, .ins .nil, gx⟩, r2.app (hd _), ?_⟩
    have step : ∀ {G' H' : Hp}, FP (some x) G2 (upd (upd H1 dx (.own x)) x (.ins (nm K C) dx [])) G' H' → RS K B G' H' σ ρ2 := fun {G' H'} p => h4.callF p (fun b z => by cases z; exact fr) rfl fun i => .inl ⟨rfl, fun b z => by cases z; exact no i⟩
    cases ed : d (.ins C []) (ts ++ td) with
    | ok y oc =>
      rw [ed] at w1
      intro v G' H' p io q
      obtain ⟨c', rfl, own⟩ := io x rfl
      have h5 := step p
      cases y with
      | val t =>
        cases t with
        | non =>
          have q : Rep K G' v .non := q
          cases q
          refine ⟨rfl, ?_⟩
          obtain ⟨a, o, ea, ho, rc, gn⟩ := own
          cases ea
          exact w1 (.ref x) G' H' ((s1.trans s2).trans p.gs) h5 ⟨x, o, rfl, ho, rc, gn, no, fr⟩
        | _ => exact w1.elim
      | own c => exact w1.elim
      | sl i => exact w1.elim
    | ex C' fs oc =>
      rw [ed] at w1
      intro d' fv G' H' p io nd e r
      obtain ⟨c', rfl, _⟩ := io x rfl
      rcases hE with hE | hE
      · exact hE _ _ _ _ (w1 d' G' H' fv ((s1.trans s2).trans p.gs) (step p) (h4.all d' nd) e r)
      · exact absurd ed (hE _ _ _ _ _)
    | bot =>
      rw [ed] at w1
      exact w1
  · cases w1
/-- cls(..), slot i -/
def eMakeL (i : Nat) (C : Str) (d : OC → List T → FR) (as : M (List Vl)) : M Vl := fun ρ => match ρ[i]? with
  | some (.fz (.cls C')) => if C' = C then eMake C d as ρ else .bot
  | _ => .bot
theorem RS.at {i : Nat} {x : SV} (h : RS K B G H σ ρ) (e : ρ[i]? = some x) : ∃ v, σ[i]? = some v ∧ SlR K G H v x := by
  have hl : i < σ.length := by rw [h.len]; exact (List.getElem?_eq_some_iff.mp e).1
  exact ⟨_, List.getElem?_eq_getElem hl, h.rel i x _ e (List.getElem?_eq_getElem hl)⟩
/-- C.m(..), m a class method -/
def eCMeth (C : Str) (d : List T → FR) (f : M Vl) (as : M (List Vl)) : M Vl := fun ρ => bindR (f ρ) fun x ρ1 => match x with
  | .val (.cls C') => if C' = C then bindR (as ρ1) fun xs ρ2 => (match fixA ρ2 xs with
    | some (ts, ρ3) => (match d (.cls C :: ts) with
      | .ok y _ => okV y ρ3
      | .ex C fs _ => .ex C fs ρ3
      | .bot => .bot)
    | none => .bot) else .bot
  | _ => .bot
end
end MX
set_option Elab.async false
set_option linter.all false
set_option maxRecDepth 100000
set_option maxHeartbeats 4000000
namespace NIx
open PySem PySem.Spec PyProof.Rows L2 GX
theorem callR_or {X : Cx} {f : Value} {r r' : List V → Hp → VK → Prop} (h : CallR X f r) (h' : CallR X f r') : CallR X f (fun xs H Q => r xs H Q ∨ r' xs H Q) := by
  intro pins s σ H xs us Q I r q
  rcases q with q | q
  · exact h pins s σ H xs us Q I r q
  · exact h' pins s σ H xs us Q I r q
end NIx
namespace MX
open PySem PySem.Spec PyProof.Rows L2 GX
section
variable [TabL] {K : PySem.W.Frag} {E : XS} {B : Bs} {G G1 G' H H1 H' : Hp} {σ : L2.St} {ρ ρ' : R}
instance : ∀ i j, Decidable (CDivP i j) := fun i j => by unfold CDivP; infer_instance
def bDivm : List T → Option Vl
  | [.int i, .int j] => if CDivP i j then some (.val (.tup [.int (i / j), .int (i % j)])) else none
  | _ => none
theorem cm_divm : CallM K (fun xs H Q => ∃ i j, xs = [.int i, .int j] ∧ CDivP i j ∧ ∀ p, H p = none → Q (.ref p) (upd H p (.tup [.int (i / j), .int (i % j)]))) bDivm := fun B G H σ ρ vs ts z Q h r e q => by
  unfold bDivm at e
  split at e
  · next a b =>
    split at e
    · next hc =>
      cases e
      cases r with
      | @cons v _ us _ r1 r2 =>
        cases r2 with
        | @cons v2 _ us2 _ r3 r4 =>
          cases r4
          obtain rfl := r1.int
          obtain rfl := r3.int
          refine ⟨a, b, rfl, hc, fun p hp => ?_⟩
          obtain ⟨s3, h3, q3⟩ := new_tup (ts := [.int _, .int _]) h hp (.cons (.int _) (.cons (.int _) .nil))
          exact q _ _ _ s3 h3 q3
    · cases e
  · cases e
def sPutTup (i : Nat) (k : Int) (j : Nat) (f : M Vl) : S := fun ρ => after (f ρ) fun x ρ1 => match fixV ρ1 x with
  | some (.tup [t, u], ρ2) => (match lstAt ρ2 i with
    | some (z, ts) => (match ixN ts.length k with
      | some n => (match gN j u (ρ2.set i (z.rep (.lst (ts.set n t)))) with
        | some ρ3 => .nx ρ3
        | none => .bot)
      | none => .bot)
    | none => .bot)
  | _ => .bot
theorem ms_putTup {i : Nat} {k : Int} {j : Nat} {te : TE} {f : M Vl} (hf : ME K E te f) : MS K E (tAsg te (gTup K 2 (gCons (gSub (tVar i) (tC (.int k)) rSetL) (gCons (gName j) gNil)))) (sPutTup i k j f) := fun B G H σ ρ D h w => by
  refine hf B G H σ ρ _ h (to_s w fun x ρ1 w1 v1 G1 H1 s1 h1 q1 => ?_)
  split at w1
  · next t u ρ2 e2 =>
    obtain ⟨G2, s2, h2, r2⟩ := fix_ok h1 q1 e2
    cases r2 with
    | @tup a vs _ S r =>
      cases r with
      | @cons x1 _ vs1 _ r1 rr =>
        cases rr with
        | @cons x2 _ vs2 _ r3 rn =>
          cases rn
          refine ⟨a, _, rfl, seqT h2.sub S, rfl, ?_⟩
          split at w1
          · next z ts ez =>
            split at w1
            · next n en =>
              split at w1
              · next ρ3 e3 =>
                obtain ⟨v, ev⟩ := lstAt_slot h2 ez
                obtain ⟨hx, ex, b, ws, rfl, ha, r4, n4⟩ := lstAt_ok h2 ez ev
                have h3 := h2.writeAt (o' := .lst (ws.set n x1)) hx ex ev (.lst (r4.set n r1))
                refine ⟨x1, [x2], rfl, _, ev, b, ws, k, n, rfl, rfl, ha, by rw [r4.len]; exact en, x2, [], rfl, ?_⟩
                exact mg_name (K := K) B G2 _ σ _ x2 u ρ3 _ h3 r3 e3 fun σ' h' _ _ => ⟨rfl, w1 G2 _ σ' h'⟩
              · cases w1
            · cases w1
          · cases w1
  · cases w1
def eStrO (C : Str) (d : List T → FR) (f : M Vl) : M Vl := fun ρ => bindR (f ρ) fun x ρ1 => match fixV ρ1 x with
  | some (.obj C' gs, ρ2) => if C' = C then (match d [.obj C gs] with
    | .ok (.val (.str z)) _ => .ok (.val (.str z)) ρ2
    | _ => .bot) else .bot
  | _ => .bot
theorem own_str {C : Str} {c : Addr} {d : List T → FR} {v : V} {gs : List (Str × T)} {z : Str} {oc : Option OC} {Q : VK} (n : nm K C = c) (h : RS K B G H σ ρ) (r : Rep K G v (.obj C gs)) (ed : d [.obj C gs] = .ok (.val (.str z)) oc)
    (w : ∀ v G' H', Same G G' → RS K B G' H' σ ρ → VR K B G' H' σ ρ v (.val (.str z)) → Q v H') : OX.rOwnS c (spM K d) [v] H Q := by
  subst n
  cases r with
  | @obj a dx C fs gs ga rf =>
    refine ⟨a, dx, fs, rfl, h.sub _ _ ga, ?_⟩
    refine ⟨G, [.obj C gs], h.sub, ⟨h.tb, h.nt⟩, .cons (.obj ga rf) .nil, ?_⟩
    rw [ed]
    intro v G' H' p _ q
    have q : Rep K G' v (.str z) := q
    cases q
    exact ⟨z, rfl, w _ G' H' p.gs (h.call p (fun a z => by cases z) rfl fun i => .inl ⟨rfl, fun a z => by cases z⟩) (.str z)⟩
def eReprO (C : Str) (d : List T → FR) (f : M Vl) : M Vl := fun ρ => bindR (f ρ) fun x ρ1 => match fixV ρ1 x with
  | some (t, ρ2) => (match t with
    | .obj C' gs => if C' = C then (match d [.obj C gs] with
      | .ok (.val (.str z)) _ => .ok (.val (.str z)) ρ2
      | _ => .bot) else .bot
    | t => opt (bReprE [t]) ρ2)
  | _ => .bot
theorem me_reprO {C : Str} {c : Addr} {d : List T → FR} {te : TE} {f : M Vl} (n : nm K C = c) (hf : ME K E te f) : ME K E (tCB (fun xs H Q => rReprE K xs H Q ∨ OX.rOwnS c (spM K d) xs H Q) (tCons te tNil)) (eReprO C d f) := fun B G H σ ρ Q hs w => by
  refine hf B G H σ ρ _ hs (WnP.imp (WnP.bind w) (Same.refl G) fun x ρ1 w1 v G1 H1 s1 h1 q1 => ?_)
  split at w1
  · next t ρ2 e2 =>
    obtain ⟨G2, s2, h2, r2⟩ := fix_ok h1 q1 e2
    split at w1
    · next C' gs =>
      split at w1
      · next hC =>
        subst hC
        split at w1
        · next z oc ed => exact .inr (own_str n h2 r2 ed fun v G' H' s' h' q' => w1 v G' H' ((s1.trans s2).trans s') h' q')
        · cases w1
      · cases w1
    · unfold opt at w1
      split at w1
      · next z ez => exact .inl (cm_reprE B G2 H1 σ ρ2 [v] [_] z Q h2 (.cons (.fz r2) .nil) ez fun v G' H' s' h' q' => w1 v G' H' ((s1.trans s2).trans s') h' q')
      · cases w1
  · cases w1
end
end MX
set_option Elab.async false
set_option linter.all false
set_option maxRecDepth 100000
set_option maxHeartbeats 4000000
namespace MX
open PySem PySem.Spec PyProof.Rows L2 GX
end MX
set_option Elab.async false
set_option linter.all false
set_option maxRecDepth 100000
set_option maxHeartbeats 4000000
namespace NIx
open PySem PySem.Spec PyProof.Rows L2 GX
section
variable {X : Cx} {CX : CXT}
theorem passC0 {E : L2.St → XK} : ∀ σ, PassesAt CX0 X σ (E σ) := fun σ _ _ _ _ _ _ z => z.elim
end
end NIx
namespace MX
open PySem PySem.Spec PyProof.Rows L2 GX
section
variable [TabL] {P : Program} {w : World} {K : PySem.W.Frag} {mg : Str → Option Value} {base : Heap} {E : XS} {B : Bs} {G G1 G' H H1 H' : Hp} {σ : L2.St} {ρ ρ' : R}
def oNotB : T → T → Option Vl
  | .bl a, .bl b => some (.val (.bl (!decide (a = b))))
  | _, _ => none
end
end MX
set_option Elab.async false
set_option linter.all false
set_option maxRecDepth 100000
set_option maxHeartbeats 4000000
namespace OAx
open PySem PySem.Spec PyProof.Rows L2 GX
def ev2 {α : Type} : List α → List α
  | [] => []
  | [x] => [x]
  | x :: _ :: r => x :: ev2 r
end OAx
namespace OAx
open PySem PySem.Spec PyProof.Rows L2 GX
end OAx
set_option Elab.async false
set_option linter.all false
set_option maxRecDepth 100000
set_option maxHeartbeats 4000000
namespace MX
open PySem PySem.Spec PyProof.Rows L2 GX
section
variable {ρ : R}
def kM0 (g : Str → Option T) (r : Res Vl) : Res Vl := bindR r fun x ρ1 => match rdV ρ1 x with
  | some (.str a) => (match g a with
    | some t => .ok (.val t) ρ1
    | none => .bot)
  | _ => .bot
def kM0b (g : Str → Option T) (ρ : R) (o : Option T) : Res Vl := match o with
  | some (.str a) => (match g a with
    | some t => .ok (.val t) ρ
    | none => .bot)
  | _ => .bot
def kVal (ρ : R) (o : Option T) : Res Vl := match o with
  | some t => .ok (.val t) ρ
  | none => .bot
theorem go_m0 (g : Str → Option T) (o : M Vl) : eM0 g o ρ = kM0 g (o ρ) := nr rfl
theorem kM0_ok (g : Str → Option T) (x : Vl) : kM0 g (.ok x ρ) = kM0b g ρ (rdV ρ x) := nr rfl
theorem kM0b_ok (g : Str → Option T) (a : Str) : kM0b g ρ (some (.str a)) = kVal ρ (g a) := nr rfl
theorem kVal_ok (t : T) : kVal ρ (some t) = .ok (.val t) ρ := nr rfl
def kM1 (g : Str → Str → Option T) (f : M Vl) (r : Res Vl) : Res Vl := bindR r fun x ρ1 => match rdV ρ1 x with
  | some (.str a) => bindR (f ρ1) fun y ρ2 => (match rdV ρ2 y with
    | some (.str b) => (match g a b with
      | some t => .ok (.val t) ρ2
      | none => .bot)
    | _ => .bot)
  | _ => .bot
def kM1b (g : Str → Str → Option T) (f : M Vl) (ρ : R) (o : Option T) : Res Vl := match o with
  | some (.str a) => bindR (f ρ) fun y ρ2 => (match rdV ρ2 y with
    | some (.str b) => (match g a b with
      | some t => .ok (.val t) ρ2
      | none => .bot)
    | _ => .bot)
  | _ => .bot
def kM1c (g : Str → Str → Option T) (a : Str) (r : Res Vl) : Res Vl := bindR r fun y ρ2 => (match rdV ρ2 y with
    | some (.str b) => (match g a b with
      | some t => .ok (.val t) ρ2
      | none => .bot)
    | _ => .bot)
def kM1d (g : Str → Str → Option T) (a : Str) (ρ : R) (o : Option T) : Res Vl := match o with
    | some (.str b) => (match g a b with
      | some t => .ok (.val t) ρ
      | none => .bot)
    | _ => .bot
theorem go_m1 (g : Str → Str → Option T) (o f : M Vl) : eM1 g o f ρ = kM1 g f (o ρ) := nr rfl
theorem kM1_ok (g : Str → Str → Option T) (f : M Vl) (x : Vl) : kM1 g f (.ok x ρ) = kM1b g f ρ (rdV ρ x) := nr rfl
theorem kM1b_ok (g : Str → Str → Option T) (f : M Vl) (a : Str) : kM1b g f ρ (some (.str a)) = kM1c g a (f ρ) := nr rfl
theorem kM1c_ok (g : Str → Str → Option T) (a : Str) (y : Vl) : kM1c g a (.ok y ρ) = kM1d g a ρ (rdV ρ y) := nr rfl
theorem kM1d_ok (g : Str → Str → Option T) (a b : Str) : kM1d g a ρ (some (.str b)) = kVal ρ (g a b) := nr rfl
def gPart (a b : Str) : Option T := if (b.length == 0) = false ∧ a.length ≤ sizeLine then some (.tup [.str (Txt.partition a b).1, .str (Txt.partition a b).2.1, .str (Txt.partition a b).2.2]) else none
theorem go_part (o f : M Vl) : ePart o f ρ = eM1 gPart o f ρ := by
  unfold ePart eM1
  congr 1
  funext x ρ1
  split
  · congr 1
    funext y ρ2
    split
    · unfold gPart
      split <;> rfl
    · rfl
  · rfl
def kSp (f : M Vl) (r : Res Vl) : Res Vl := bindR r fun x ρ1 => match rdV ρ1 x with
  | some (.str a) => bindR (f ρ1) fun y ρ2 => (match rdV ρ2 y with
    | some (.str b) => if (b.length == 0) = false ∧ a.length + 2 ≤ sizeLine then .ok (.own (.lst ((Txt.split a b).map T.str))) ρ2 else .bot
    | _ => .bot)
  | _ => .bot
def kSpb (f : M Vl) (ρ : R) (o : Option T) : Res Vl := match o with
  | some (.str a) => bindR (f ρ) fun y ρ2 => (match rdV ρ2 y with
    | some (.str b) => if (b.length == 0) = false ∧ a.length + 2 ≤ sizeLine then .ok (.own (.lst ((Txt.split a b).map T.str))) ρ2 else .bot
    | _ => .bot)
  | _ => .bot
def kSpc (a : Str) (r : Res Vl) : Res Vl := bindR r fun y ρ2 => (match rdV ρ2 y with
    | some (.str b) => if (b.length == 0) = false ∧ a.length + 2 ≤ sizeLine then .ok (.own (.lst ((Txt.split a b).map T.str))) ρ2 else .bot
    | _ => .bot)
def kSpd (a : Str) (ρ : R) (o : Option T) : Res Vl := match o with
    | some (.str b) => if (b.length == 0) = false ∧ a.length + 2 ≤ sizeLine then .ok (.own (.lst ((Txt.split a b).map T.str))) ρ else .bot
    | _ => .bot
theorem go_split (o f : M Vl) : eSplit o f ρ = kSp f (o ρ) := nr rfl
theorem kSp_ok (f : M Vl) (x : Vl) : kSp f (.ok x ρ) = kSpb f ρ (rdV ρ x) := nr rfl
theorem kSpb_ok (f : M Vl) (a : Str) : kSpb f ρ (some (.str a)) = kSpc a (f ρ) := nr rfl
theorem kSpc_ok (a : Str) (y : Vl) : kSpc a (.ok y ρ) = kSpd a ρ (rdV ρ y) := nr rfl
theorem kSpd_ok (a b : Str) : kSpd a ρ (some (.str b)) = if (b.length == 0) = false ∧ a.length + 2 ≤ sizeLine then .ok (.own (.lst ((Txt.split a b).map T.str))) ρ else .bot := nr rfl
theorem oIxS_ok (z : Str) (i : Int) : oIxS (.str z) (.int i) = if z.length ≤ sizeLine then (match atI z.cps.toList i with
    | some c => some (.val (.str ⟨#[c]⟩))
    | none => none) else none := nr rfl
theorem bGcd_ok (a b : Int) : bGcd [.int a, .int b] = some (.val (.int ((Nat.gcd a.natAbs b.natAbs : Nat) : Int))) := nr rfl
theorem bDivm_ok (i j : Int) : bDivm [.int i, .int j] = if CDivP i j then some (.val (.tup [.int (i / j), .int (i % j)])) else none := nr rfl
theorem bIntS_ok (a : Str) : bIntS [.str a] = if a.length ≤ 640 then (match PySem.intText? a with
    | some n => some (.val (.int n))
    | none => none) else none := nr rfl
def kSS (l h : M (Option Int)) (r : Res Vl) : Res Vl := bindR r fun x ρ1 => bindR (l ρ1) fun lo ρ2 => bindR (h ρ2) fun hi ρ3 => opt (ap1 (slS lo hi) (rdV ρ3 (stl x))) ρ3
def kSS2 (x : Vl) (h : M (Option Int)) (r : Res (Option Int)) : Res Vl := bindR r fun lo ρ2 => bindR (h ρ2) fun hi ρ3 => opt (ap1 (slS lo hi) (rdV ρ3 (stl x))) ρ3
def kSS3 (x : Vl) (lo : Option Int) (r : Res (Option Int)) : Res Vl := bindR r fun hi ρ3 => opt (ap1 (slS lo hi) (rdV ρ3 (stl x))) ρ3
theorem go_slS (f : M Vl) (l h : M (Option Int)) : eSlS f l h ρ = kSS l h (f ρ) := nr rfl
theorem kSS_ok (l h : M (Option Int)) (x : Vl) : kSS l h (.ok x ρ) = kSS2 x h (l ρ) := nr rfl
theorem kSS2_ok (x : Vl) (h : M (Option Int)) (lo : Option Int) : kSS2 x h (.ok lo ρ) = kSS3 x lo (h ρ) := nr rfl
theorem kSS3_ok (x : Vl) (lo hi : Option Int) : kSS3 x lo (.ok hi ρ) = opt (ap1 (slS lo hi) (rdV ρ (stl x))) ρ := nr rfl
theorem slS_ok (lo hi : Option Int) (z : Str) : slS lo hi (.str z) = if z.length ≤ sizeLine then some (.val (.str (Txt.slice z lo hi))) else none := nr rfl
def kSg (r : Res Vl) : Res (List T) := bindR r fun x ρ1 => match rdV ρ1 x with
  | some (.str z) => .ok (sgT z) ρ1
  | _ => .bot
def kSg2 (ρ : R) (o : Option T) : Res (List T) := match o with
  | some (.str z) => .ok (sgT z) ρ
  | _ => .bot
theorem go_sg (f : M Vl) : iSg f ρ = kSg (f ρ) := nr rfl
theorem kSg_ok (x : Vl) : kSg (.ok x ρ) = kSg2 ρ (rdV ρ x) := nr rfl
theorem kSg2_ok (z : Str) : kSg2 ρ (some (.str z)) = .ok (sgT z) ρ := nr rfl
theorem fmtT_str (y : Str) : fmtT (.str y) = if y.length ≤ sizeLine then some (.val (.str y)) else none := nr rfl
theorem fmtT_int (i : Int) : fmtT (.int i) = if i.natAbs.log2 < 1920 then some (.val (.str (toString i))) else none := nr rfl
def kJs (fs : List (M Vl)) (acc : Str) (r : Res Vl) : Res Vl := bindR r fun x ρ1 => match rdV ρ1 x with
    | some (.str y) => if (acc ++ y).length ≤ sizeLine then eJs fs (acc ++ y) ρ1 else .bot
    | _ => .bot
def kJs2 (fs : List (M Vl)) (acc : Str) (ρ : R) (o : Option T) : Res Vl := match o with
    | some (.str y) => if (acc ++ y).length ≤ sizeLine then eJs fs (acc ++ y) ρ else .bot
    | _ => .bot
theorem go_js0 (acc : Str) : eJs [] acc ρ = .ok (.val (.str acc)) ρ := nr rfl
theorem go_js (f : M Vl) (fs : List (M Vl)) (acc : Str) : eJs (f :: fs) acc ρ = kJs fs acc (f ρ) := nr rfl
theorem kJs_ok (fs : List (M Vl)) (acc : Str) (x : Vl) : kJs fs acc (.ok x ρ) = kJs2 fs acc ρ (rdV ρ x) := nr rfl
theorem kJs2_ok (fs : List (M Vl)) (acc y : Str) : kJs2 fs acc ρ (some (.str y)) = if (acc ++ y).length ≤ sizeLine then eJs fs (acc ++ y) ρ else .bot := nr rfl
def kC3 (g g' g'' : T → T → Option Vl) (h c d : M Vl) (r : Res Vl) : Res Vl := bindR r fun x ρ1 => bindR (h ρ1) fun y ρ2 => match ap2 g (rdV ρ2 (stl x)) (rdV ρ2 (stl y)) with
  | some (.val (.bl k)) => if k = true then bindR (c ρ2) fun z ρ3 => (match ap2 g' (rdV ρ3 (stl y)) (rdV ρ3 (stl z)) with
    | some (.val (.bl k')) => if k' = true then bindR (d ρ3) fun u ρ4 => opt (ap2 g'' (rdV ρ4 (stl z)) (rdV ρ4 u)) ρ4 else .ok (.val (.bl false)) ρ3
    | _ => .bot) else .ok (.val (.bl false)) ρ2
  | _ => .bot
def kC3b (g g' g'' : T → T → Option Vl) (c d : M Vl) (x : Vl) (r : Res Vl) : Res Vl := bindR r fun y ρ2 => match ap2 g (rdV ρ2 (stl x)) (rdV ρ2 (stl y)) with
  | some (.val (.bl k)) => if k = true then bindR (c ρ2) fun z ρ3 => (match ap2 g' (rdV ρ3 (stl y)) (rdV ρ3 (stl z)) with
    | some (.val (.bl k')) => if k' = true then bindR (d ρ3) fun u ρ4 => opt (ap2 g'' (rdV ρ4 (stl z)) (rdV ρ4 u)) ρ4 else .ok (.val (.bl false)) ρ3
    | _ => .bot) else .ok (.val (.bl false)) ρ2
  | _ => .bot
def kC3c (g' g'' : T → T → Option Vl) (c d : M Vl) (y : Vl) (ρ : R) (o : Option Vl) : Res Vl := match o with
  | some (.val (.bl k)) => if k = true then bindR (c ρ) fun z ρ3 => (match ap2 g' (rdV ρ3 (stl y)) (rdV ρ3 (stl z)) with
    | some (.val (.bl k')) => if k' = true then bindR (d ρ3) fun u ρ4 => opt (ap2 g'' (rdV ρ4 (stl z)) (rdV ρ4 u)) ρ4 else .ok (.val (.bl false)) ρ3
    | _ => .bot) else .ok (.val (.bl false)) ρ
  | _ => .bot
def kC3d (g' g'' : T → T → Option Vl) (d : M Vl) (y : Vl) (r : Res Vl) : Res Vl := bindR r fun z ρ3 => (match ap2 g' (rdV ρ3 (stl y)) (rdV ρ3 (stl z)) with
    | some (.val (.bl k')) => if k' = true then bindR (d ρ3) fun u ρ4 => opt (ap2 g'' (rdV ρ4 (stl z)) (rdV ρ4 u)) ρ4 else .ok (.val (.bl false)) ρ3
    | _ => .bot)
def kC3e (g'' : T → T → Option Vl) (d : M Vl) (z : Vl) (ρ : R) (o : Option Vl) : Res Vl := match o with
    | some (.val (.bl k')) => if k' = true then bindR (d ρ) fun u ρ4 => opt (ap2 g'' (rdV ρ4 (stl z)) (rdV ρ4 u)) ρ4 else .ok (.val (.bl false)) ρ
    | _ => .bot
def kC3f (g'' : T → T → Option Vl) (z : Vl) (r : Res Vl) : Res Vl := bindR r fun u ρ4 => opt (ap2 g'' (rdV ρ4 (stl z)) (rdV ρ4 u)) ρ4
theorem go_ch3 (g g' g'' : T → T → Option Vl) (f h c d : M Vl) : eCh3 g g' g'' f h c d ρ = kC3 g g' g'' h c d (f ρ) := nr rfl
theorem kC3_ok (g g' g'' : T → T → Option Vl) (h c d : M Vl) (x : Vl) : kC3 g g' g'' h c d (.ok x ρ) = kC3b g g' g'' c d x (h ρ) := nr rfl
theorem kC3b_ok (g g' g'' : T → T → Option Vl) (c d : M Vl) (x y : Vl) : kC3b g g' g'' c d x (.ok y ρ) = kC3c g' g'' c d y ρ (ap2 g (rdV ρ (stl x)) (rdV ρ (stl y))) := nr rfl
theorem kC3c_f (g' g'' : T → T → Option Vl) (c d : M Vl) (y : Vl) : kC3c g' g'' c d y ρ (some (.val (.bl false))) = .ok (.val (.bl false)) ρ := nr rfl
theorem kC3c_t (g' g'' : T → T → Option Vl) (c d : M Vl) (y : Vl) : kC3c g' g'' c d y ρ (some (.val (.bl true))) = kC3d g' g'' d y (c ρ) := nr rfl
theorem kC3d_ok (g' g'' : T → T → Option Vl) (d : M Vl) (y z : Vl) : kC3d g' g'' d y (.ok z ρ) = kC3e g'' d z ρ (ap2 g' (rdV ρ (stl y)) (rdV ρ (stl z))) := nr rfl
theorem kC3e_f (g'' : T → T → Option Vl) (d : M Vl) (z : Vl) : kC3e g'' d z ρ (some (.val (.bl false))) = .ok (.val (.bl false)) ρ := nr rfl
theorem kC3e_t (g'' : T → T → Option Vl) (d : M Vl) (z : Vl) : kC3e g'' d z ρ (some (.val (.bl true))) = kC3f g'' z (d ρ) := nr rfl
theorem kC3f_ok (g'' : T → T → Option Vl) (z u : Vl) : kC3f g'' z (.ok u ρ) = opt (ap2 g'' (rdV ρ (stl z)) (rdV ρ u)) ρ := nr rfl
def kTry (C : Str) (dT : List (Str × T) → R → Out) (o : Out) : Out := match o with
  | .ex C' fs ρ1 => if C' = C then dT fs ρ1 else .bot
  | o => o
theorem go_try (C : Str) (b : S) (dT : List (Str × T) → R → Out) : sTry C b dT ρ = kTry C dT (b ρ) := by
  unfold sTry kTry
  cases b ρ <;> rfl
theorem kTry_ex (C : Str) (dT : List (Str × T) → R → Out) (fs : List (Str × T)) : kTry C dT (.ex C fs ρ) = dT fs ρ := by
  show (if C = C then _ else _) = _
  rw [if_pos rfl]
theorem kTry_nx (C : Str) (dT : List (Str × T) → R → Out) : kTry C dT (.nx ρ) = .nx ρ := nr rfl
theorem kTry_rt (C : Str) (dT : List (Str × T) → R → Out) (x : Vl) : kTry C dT (.rt x ρ) = .rt x ρ := nr rfl
theorem go_makeL (i : Nat) (C : Str) (d : OC → List T → FR) (as : M (List Vl)) (h : ρ[i]? = some (.fz (.cls C))) : eMakeL i C d as ρ = eMake C d as ρ := by
  unfold eMakeL
  rw [h]
  dsimp only
  rw [if_pos rfl]
def kCm (C : Str) (d : List T → FR) (as : M (List Vl)) (r : Res Vl) : Res Vl := bindR r fun x ρ1 => match x with
  | .val (.cls C') => if C' = C then bindR (as ρ1) fun xs ρ2 => (match fixA ρ2 xs with
    | some (ts, ρ3) => (match d (.cls C :: ts) with
      | .ok y _ => okV y ρ3
      | .ex C fs _ => .ex C fs ρ3
      | .bot => .bot)
    | none => .bot) else .bot
  | _ => .bot
def kCm2 (C : Str) (d : List T → FR) (r : Res (List Vl)) : Res Vl := bindR r fun xs ρ2 => (match fixA ρ2 xs with
    | some (ts, ρ3) => (match d (.cls C :: ts) with
      | .ok y _ => okV y ρ3
      | .ex C fs _ => .ex C fs ρ3
      | .bot => .bot)
    | none => .bot)
def kCm3 (C : Str) (d : List T → FR) (o : Option (List T × R)) : Res Vl := match o with
    | some (ts, ρ3) => (match d (.cls C :: ts) with
      | .ok y _ => okV y ρ3
      | .ex C fs _ => .ex C fs ρ3
      | .bot => .bot)
    | none => .bot
def kFR (ρ : R) (r : FR) : Res Vl := match r with
      | .ok y _ => okV y ρ
      | .ex C fs _ => .ex C fs ρ
      | .bot => .bot
theorem go_cmeth (C : Str) (d : List T → FR) (f : M Vl) (as : M (List Vl)) : eCMeth C d f as ρ = kCm C d as (f ρ) := nr rfl
theorem kCm_ok (C : Str) (d : List T → FR) (as : M (List Vl)) : kCm C d as (.ok (.val (.cls C)) ρ) = kCm2 C d (as ρ) := by
  show (if C = C then _ else _) = _
  rw [if_pos rfl]
  rfl
theorem kCm2_ok (C : Str) (d : List T → FR) (xs : List Vl) : kCm2 C d (.ok xs ρ) = kCm3 C d (fixA ρ xs) := nr rfl
theorem kCm3_ok (C : Str) (d : List T → FR) (ts : List T) : kCm3 C d (some (ts, ρ)) = kFR ρ (d (.cls C :: ts)) := nr rfl
theorem kFR_val (t : T) (c : Option OC) : kFR ρ (.ok (.val t) c) = .ok (.val t) ρ := nr rfl
theorem kFR_own (o : OC) (c : Option OC) : kFR ρ (.ok (.own o) c) = .ok (.own o) ρ := nr rfl
theorem kFR_ex (C : Str) (fs : List (Str × T)) (c : Option OC) : kFR ρ (.ex C fs c) = .ex C fs ρ := nr rfl
def kStO (C : Str) (d : List T → FR) (o : Option (T × R)) : Res Vl := match o with
  | some (.obj C' gs, ρ2) => if C' = C then (match d [.obj C gs] with
    | .ok (.val (.str z)) _ => .ok (.val (.str z)) ρ2
    | _ => .bot) else .bot
  | _ => .bot
def kSt1 (C : Str) (d : List T → FR) (r : Res Vl) : Res Vl := bindR r fun x ρ1 => match fixV ρ1 x with
  | some (.obj C' gs, ρ2) => if C' = C then (match d [.obj C gs] with
    | .ok (.val (.str z)) _ => .ok (.val (.str z)) ρ2
    | _ => .bot) else .bot
  | _ => .bot
def kStS (ρ : R) (r : FR) : Res Vl := match r with
    | .ok (.val (.str z)) _ => .ok (.val (.str z)) ρ
    | _ => .bot
theorem go_strO (C : Str) (d : List T → FR) (f : M Vl) : eStrO C d f ρ = kSt1 C d (f ρ) := nr rfl
theorem kSt1_ok (C : Str) (d : List T → FR) (x : Vl) : kSt1 C d (.ok x ρ) = kStO C d (fixV ρ x) := nr rfl
theorem kStO_ok (C : Str) (d : List T → FR) (gs : List (Str × T)) : kStO C d (some (.obj C gs, ρ)) = kStS ρ (d [.obj C gs]) := by
  show (if C = C then _ else _) = _
  rw [if_pos rfl]
  rfl
theorem kStS_ok (z : Str) (c : Option OC) : kStS ρ (.ok (.val (.str z)) c) = .ok (.val (.str z)) ρ := nr rfl
def rpT (C : Str) (d : List T → FR) (t : T) : Option Str := match t with
  | .obj C' gs => if C' = C then (match d [.obj C gs] with
    | .ok (.val (.str z)) _ => some z
    | _ => none) else none
  | t => (match bReprE [t] with
    | some (.val (.str z)) => some z
    | _ => none)
def kRp (C : Str) (d : List T → FR) (r : Res Vl) : Res Vl := bindR r fun x ρ1 => match fixV ρ1 x with
  | some (t, ρ2) => (match rpT C d t with
    | some z => .ok (.val (.str z)) ρ2
    | none => .bot)
  | none => .bot
def kRp2 (C : Str) (d : List T → FR) (o : Option (T × R)) : Res Vl := match o with
  | some (t, ρ2) => (match rpT C d t with
    | some z => .ok (.val (.str z)) ρ2
    | none => .bot)
  | none => .bot
def kRp3 (ρ : R) (o : Option Str) : Res Vl := match o with
    | some z => .ok (.val (.str z)) ρ
    | none => .bot
theorem bReprE_str {ts : List T} {x : Vl} (h : bReprE ts = some x) : ∃ z, x = .val (.str z) := by
  unfold bReprE at h
  split at h
  · split at h
    · split at h
      · cases h
        exact ⟨_, rfl⟩
      · cases h
    · cases h
  · cases h
theorem go_reprO (C : Str) (d : List T → FR) (f : M Vl) : eReprO C d f ρ = kRp C d (f ρ) := by
  unfold eReprO kRp
  congr 1
  funext x ρ1
  cases e : fixV ρ1 x with
  | none => rfl
  | some p =>
    obtain ⟨t, ρ2⟩ := p
    dsimp only
    unfold rpT
    have fin : ∀ u : T, (opt (bReprE [u]) ρ2 : Res Vl) = (match (match bReprE [u] with
        | some (.val (.str z)) => some z
        | _ => none) with
      | some z => .ok (.val (.str z)) ρ2
      | none => .bot) := fun u => by
      cases eb : bReprE [u] with
      | none => rfl
      | some x =>
        obtain ⟨z, rfl⟩ := bReprE_str eb
        rfl
    cases t with
    | obj C' gs =>
      dsimp only
      split
      · cases d [.obj C gs] with
        | ok y oc =>
          cases y with
          | val t => cases t <;> rfl
          | own c => rfl
          | sl i => rfl
        | ex C2 fs2 c2 => rfl
        | bot => rfl
      · rfl
    | _ => exact fin _
theorem kRp_ok (C : Str) (d : List T → FR) (x : Vl) : kRp C d (.ok x ρ) = kRp2 C d (fixV ρ x) := nr rfl
theorem kRp2_ok (C : Str) (d : List T → FR) (t : T) : kRp2 C d (some (t, ρ)) = kRp3 ρ (rpT C d t) := nr rfl
theorem kRp3_ok (z : Str) : kRp3 ρ (some z) = .ok (.val (.str z)) ρ := nr rfl
def kPt (i : Nat) (k : Int) (j : Nat) (o : Option (T × R)) : Out := match o with
  | some (.tup [t, u], ρ2) => (match lstAt ρ2 i with
    | some (z, ts) => (match ixN ts.length k with
      | some n => (match gN j u (ρ2.set i (z.rep (.lst (ts.set n t)))) with
        | some ρ3 => .nx ρ3
        | none => .bot)
      | none => .bot)
    | none => .bot)
  | _ => .bot
def kPt2 (j : Nat) (k : Int) (i : Nat) (t u : T) (ρ : R) (o : Option (SV × List T)) : Out := match o with
    | some (z, ts) => (match ixN ts.length k with
      | some n => (match gN j u (ρ.set i (z.rep (.lst (ts.set n t)))) with
        | some ρ3 => .nx ρ3
        | none => .bot)
      | none => .bot)
    | none => .bot
def kPt3 (j i : Nat) (z : SV) (ts : List T) (t u : T) (ρ : R) (o : Option Nat) : Out := match o with
      | some n => (match gN j u (ρ.set i (z.rep (.lst (ts.set n t)))) with
        | some ρ3 => .nx ρ3
        | none => .bot)
      | none => .bot
def kPt1 (i : Nat) (k : Int) (j : Nat) (r : Res Vl) : Out := after r fun x ρ1 => match fixV ρ1 x with
  | some (.tup [t, u], ρ2) => (match lstAt ρ2 i with
    | some (z, ts) => (match ixN ts.length k with
      | some n => (match gN j u (ρ2.set i (z.rep (.lst (ts.set n t)))) with
        | some ρ3 => .nx ρ3
        | none => .bot)
      | none => .bot)
    | none => .bot)
  | _ => .bot
theorem go_putTup (i : Nat) (k : Int) (j : Nat) (f : M Vl) : sPutTup i k j f ρ = kPt1 i k j (f ρ) := nr rfl
theorem kPt1_ok (i : Nat) (k : Int) (j : Nat) (x : Vl) : kPt1 i k j (.ok x ρ) = kPt i k j (fixV ρ x) := nr rfl
theorem kPt_ok (i : Nat) (k : Int) (j : Nat) (t u : T) : kPt i k j (some (.tup [t, u], ρ)) = kPt2 j k i t u ρ (lstAt ρ i) := nr rfl
theorem kPt2_ok (j : Nat) (k : Int) (i : Nat) (t u : T) (z : SV) (ts : List T) : kPt2 j k i t u ρ (some (z, ts)) = kPt3 j i z ts t u ρ (ixN ts.length k) := nr rfl
theorem kPt3_ok (j i : Nat) (z : SV) (ts : List T) (t u : T) (n : Nat) : kPt3 j i z ts t u ρ (some n) = kPH (gN j u (ρ.set i (z.rep (.lst (ts.set n t))))) := nr rfl
theorem oNotB_ok (a b : Bool) : oNotB (.bl a) (.bl b) = some (.val (.bl (!decide (a = b)))) := nr rfl
end
end MX
set_option Elab.async false
set_option linter.all false
set_option maxRecDepth 100000
set_option maxHeartbeats 4000000
namespace MX
open PySem PySem.Spec PyProof.Rows L2 GX
section
variable [TabL] {P : Program} {w : World} {K : PySem.W.Frag} {mg : Str → Option Value} {base : Heap} {E : XS} {B : Bs} {G G1 G' H H1 H' : Hp} {σ : L2.St} {ρ ρ' : R}
def eEv2 (f : M Vl) (l : M (Option Int)) : M Vl := fun ρ => bindR (f ρ) fun x ρ1 => bindR (l ρ1) fun lo ρ2 => match rdV ρ2 (stl x) with
  | some (.tup ts) => .ok (.val (.tup (OAx.ev2 (ts.drop (HT.sIx ts.length 0 lo))))) ρ2
  | _ => .bot
def refB (r : FR) (ρ : R) : Res Vl := match r with
  | .ok (.val (.bl c)) _ => .ok (.val (.bl c)) ρ
  | .ex C fs _ => .ex C fs ρ
  | _ => .bot
def kOwnL (C : Str) (d : List T → FR) (t u : T) (ρ : R) : Res Vl := match t, u with
  | .obj C1 gs, .obj C2 hs => if C1 = C ∧ C2 = C then refB (d [.obj C gs, .obj C hs]) ρ else .bot
  | _, _ => .bot
def bBoolT : List T → Option Vl
  | [.tup ts] => some (.val (.bl (!ts.isEmpty)))
  | ts => bBool ts
def eBoolO (C : Str) (d : List T → FR) (f : M Vl) : M Vl := fun ρ => bindR (f ρ) fun x ρ1 => match fixV ρ1 x with
  | some (.obj C1 gs, ρ2) => if C1 = C then (match blR (d [.obj C gs]) with
    | some c => .ok (.val (.bl c)) ρ2
    | none => .bot) else .bot
  | _ => .bot
def eSMeth (C : Str) (d : List T → FR) (f : M Vl) (as : M (List Vl)) : M Vl := fun ρ => bindR (f ρ) fun x ρ1 => match x with
  | .val (.cls C') => if C' = C then bindR (as ρ1) fun xs ρ2 => (match fixA ρ2 xs with
    | some (ts, ρ3) => (match d ts with
      | .ok y _ => okV y ρ3
      | .ex C fs _ => .ex C fs ρ3
      | .bot => .bot)
    | none => .bot) else .bot
  | _ => .bot
theorem Vw.set {v : V} {ns : List Int} (h : Vw K G H v (.set ns)) (s : Same G H) : ∃ a, v = .ref a ∧ H a = some (SetW a ns) := by
  generalize e : T.set ns = t at h
  cases h with
  | fz r => subst e; cases r with | set q => exact ⟨_, rfl, s _ _ q⟩
  | own e1 r => cases r <;> cases e
def oInW : T → T → Option Vl
  | .int k, .set ns => some (.val (.bl (decide (k ∈ ns))))
  | _, _ => none
def ePop (i : Nat) : M Vl := fun ρ => match lstAt ρ i with
  | some (x, ts) => (match ts[ts.length - 1]? with
    | some t => .ok (.val t) (ρ.set i (x.rep (.lst ts.dropLast)))
    | none => .bot)
  | none => .bot
end
end MX
namespace MX
open PySem PySem.Spec PyProof.Rows L2 GX
end MX
namespace MX
open PySem PySem.Spec PyProof.Rows L2 GX
end MX
namespace MX
open PySem PySem.Spec PyProof.Rows L2 GX
end MX
namespace MX
open PySem PySem.Spec PyProof.Rows L2 GX
section
variable [TabL] {K : PySem.W.Frag} {E : XS} {G : Hp}
/-- zip of two lists, or of two tuples -/
def ziB : List T → Option (List T)
  | [a, b] => match lstOf a, lstOf b with
    | some ts, some us => some (zipT ts us)
    | none, none => (match tupOf a, tupOf b with
      | some ts, some us => some (zipT ts us)
      | _, _ => none)
    | _, _ => none
  | _ => none
theorem ziB_lst (ts us : List T) : ziB [.lst ts, .lst us] = some (zipT ts us) := nr rfl
theorem ziB_tup (ts us : List T) : ziB [.tup ts, .tup us] = some (zipT ts us) := nr rfl
end
end MX
namespace MX
open PySem PySem.Spec PyProof.Rows L2 GX
def rgA : List T → Option (List T)
  | [.int i, .int j] => some (rngT i 1 (j - i).toNat)
  | _ => none
theorem rgA_ok (i j : Int) : rgA [.int i, .int j] = some (rngT i 1 (j - i).toNat) := nr rfl
end MX
set_option Elab.async false
set_option linter.all false
set_option maxRecDepth 100000
set_option maxHeartbeats 4000000
namespace MX
open PySem PySem.Spec PyProof.Rows L2 GX
section
variable [TabL] {K : PySem.W.Frag} {E : XS} {B : Bs} {G H : Hp} {σ : L2.St} {ρ : R}
/-- the inner walk: what is told, the slots behind it -/
def lcI (h : T → R → Option R) (c : M Bool) (e : M Vl) (vs : List Nat) : List T → List T → R → Option (List T × R)
  | [], acc, ρ => some (acc, ρ)
  | t :: ts, acc, ρ => match h t ρ with
    | some ρ1 => match c ρ1 with
      | .ok k ρ2 => if k = true then (match e ρ2 with
        | .ok x ρ3 => match fixV ρ3 x with
          | some (u, ρ4) => match wipeR vs ρ4 with
            | some ρ5 => if acc.length < 16777216 then lcI h c e vs ts (acc ++ [u]) ρ5 else none
            | none => none
          | none => none
        | _ => none) else (match wipeR vs ρ2 with
          | some ρ5 => lcI h c e vs ts acc ρ5
          | none => none)
      | _ => none
    | none => none
def lcL2 (h : T → R → Option R) (it1 : M (List T)) (h1 : T → R → Option R) (c1 : M Bool) (e : M Vl) (vs vs1 : List Nat) : List T → List T → R → Res Vl
  | [], acc, ρ => .ok (.own (.lst acc)) ρ
  | t :: ts, acc, ρ => match h t ρ with
    | some ρ1 => match it1 ρ1 with
      | .ok us ρ2 => if noAt ρ2 vs1 = true then (match lcI h1 c1 e vs1 us acc ρ2 with
        | some (acc', ρ3) => match wipeR vs ρ3 with
          | some ρ4 => lcL2 h it1 h1 c1 e vs vs1 ts acc' ρ4
          | none => .bot
        | none => .bot) else .bot
      | _ => .bot
    | none => .bot
def eLc2 (its : M (List T)) (h : T → R → Option R) (it1 : M (List T)) (h1 : T → R → Option R) (c1 : M Bool) (e : M Vl) (vs vs1 : List Nat) : M Vl := fun ρ => bindR (its ρ) fun ts ρ1 => if noAt ρ1 vs = true then lcL2 h it1 h1 c1 e vs vs1 ts [] ρ1 else .bot
theorem MG.mono {g : TG} {is js : List Nat} {f : T → R → Option R} (h : MG K g is f) (s : ∀ i ∈ is, i ∈ js) : MG K g js f := fun B G H σ ρ v t ρ' Q a b c k => h B G H σ ρ v t ρ' Q a b c fun σ' x y z => k σ' x (fun j hj => y j fun hi => hj (s j hi)) z
end
end MX
set_option Elab.async false
set_option linter.all false
set_option maxRecDepth 100000
set_option maxHeartbeats 2000000
namespace PAx
open PySem PySem.Spec PyProof.Rows L2
inductive Kd | l | t | s
/-- its iterator -/
def ItSt (k : Kd) (v : V) (it : Addr) (i : Nat) (h : Heap) : Prop := match k, v with
  | .l, .ref a => h.IsListIter it a i
  | .t, .ref a => h.IsTupleIter it a i
  | .s, .str z => ∃ t, h.IsStrIter it (strIterType z) z t i
  | _, _ => False
theorem ItSt.obj {k : Kd} {v : V} {it : Addr} {i : Nat} {h : Heap} (s : ItSt k v it i h) : ∃ o, h.get? it = some o ∧ ∀ u, o.data ≠ .cell u := by
  cases k <;> cases v <;> first | exact False.elim s | skip
  · obtain ⟨o, e, _, d⟩ := s
    exact ⟨o, e, fun u q => by rw [d] at q; cases q⟩
  · obtain ⟨o, e, _, d⟩ := s
    exact ⟨o, e, fun u q => by rw [d] at q; cases q⟩
  · obtain ⟨t, o, e, _, d⟩ := s
    exact ⟨o, e, fun u q => by rw [d] at q; cases q⟩
theorem ItSt.keep {k : Kd} {v : V} {it : Addr} {i : Nat} {h h' : Heap} (s : ItSt k v it i h) (kp : ∀ o, h.get? it = some o → h'.get? it = some o) : ItSt k v it i h' := by
  cases k <;> cases v <;> first | exact False.elim s | skip
  · exact Heap.IsListIter.at s kp
  · exact Heap.IsTupleIter.at s kp
  · obtain ⟨t, o, e, r⟩ := s
    exact ⟨t, o, kp o e, r⟩
end PAx
set_option Elab.async false
set_option linter.all false
set_option maxRecDepth 100000
set_option maxHeartbeats 4000000
namespace PBx
open PySem PySem.Spec PyProof.Rows L2
end PBx
set_option Elab.async false
set_option linter.all false
set_option maxRecDepth 100000
set_option maxHeartbeats 4000000
namespace PBx
open PySem PySem.Spec PyProof.Rows L2
end PBx
set_option Elab.async false
set_option linter.all false
set_option maxRecDepth 100000
set_option maxHeartbeats 4000000
namespace PBx
open PySem PySem.Spec PyProof.Rows L2 OAx
end PBx
set_option Elab.async false
set_option linter.all false
set_option maxRecDepth 100000
set_option maxHeartbeats 4000000
namespace MX
open PySem PySem.Spec PyProof.Rows L2 GX PAx PBx
section
variable [TabL] {K : PySem.W.Frag} {E : XS} {B : Bs} {G H : Hp} {σ : L2.St} {ρ : R}
def seqX : T → Option (List T)
  | .str z => some (sgT z)
  | t => seqOf t
def ziX : List T → Option (List T)
  | [a, b] => match seqX a, seqX b with
    | some ts, some us => some (zipT ts us)
    | _, _ => none
  | _ => none
def enX : List T → Option (List T)
  | [t] => match seqX t with
    | some ts => some (enT ts)
    | none => none
  | _ => none
def strsT : List T → Option (List Str)
  | [] => some []
  | .str z :: ts => match strsT ts with
    | some zs => some (z :: zs)
    | none => none
  | _ => none
def eJoin (o f : M Vl) : M Vl := fun ρ => bindR (o ρ) fun x ρ1 => match rdV ρ1 x with
  | some (.str a) => bindR (f ρ1) fun y ρ2 => (match fixV ρ2 y with
    | some (t, ρ3) => (match seqOf t with
      | some ts => (match strsT ts with
        | some ys => if (ys.map (·.length)).sum + ys.length * a.length ≤ 16777216 then .ok (.val (.str (Txt.join a ys))) ρ3 else .bot
        | none => .bot)
      | none => .bot)
    | none => .bot)
  | _ => .bot
def eCallV (i : Nat) (N : Str) (d : List T → FR) (as : M (List Vl)) : M Vl := fun ρ => match ρ[i]? with
  | some (.fz (.cls N')) => if N' = N then eCall d as ρ else .bot
  | _ => .bot
def eCallO (C : Str) (d : List T → FR) (f : M Vl) (as : M (List Vl)) : M Vl := fun ρ => bindR (f ρ) fun x ρ1 => match fixV ρ1 x with
  | some (.obj C' gs, ρ2) => if C' = C then bindR (as ρ2) fun xs ρ3 => (match fixA ρ3 xs with
    | some (ts, ρ4) => (match d (.obj C gs :: ts) with
      | .ok y _ => okV y ρ4
      | .ex C fs _ => .ex C fs ρ4
      | .bot => .bot)
    | none => .bot) else .bot
  | _ => .bot
def bStrU : List T → Option Vl
  | [.int i] => if i.natAbs.log2 < 1920 then some (.val (.str (toString i))) else none
  | [.str a] => some (.val (.str a))
  | _ => none
def eGet2 (o f g : M Vl) : M Vl := fun ρ => bindR (o ρ) fun x ρ1 => match fixV ρ1 x with
  | some (.dct gs, ρ2) => bindR (f ρ2) fun y ρ3 => (match keyO (rdV ρ3 y) with
    | some k => bindR (g ρ3) fun z ρ4 => (match fixV ρ4 z with
      | some (u, ρ5) => .ok (.val ((getD gs k).getD u)) ρ5
      | none => .bot)
    | none => .bot)
  | _ => .bot
def sAsg2 (h1 h2 : T → R → Option R) (f : M Vl) : S := fun ρ => after (f ρ) fun x ρ1 => match fixV ρ1 x with
  | some (t, ρ2) => (match h1 t ρ2 with
    | some ρ3 => (match h2 t ρ3 with
      | some ρ4 => .nx ρ4
      | none => .bot)
    | none => .bot)
  | none => .bot
def revTT : T → Option Vl
  | .tup ts => some (.val (.tup ts.reverse))
  | _ => none
def sTryM (b : S) (l : List (Str × (List (Str × T) → R → Out))) : S := fun ρ => match b ρ with
  | .ex C' fs ρ1 => (match l.find? (fun p => decide (p.1 = C')) with
    | some p => p.2 fs ρ1
    | none => .bot)
  | o => o
end
end MX
set_option Elab.async false
set_option linter.all false
set_option maxRecDepth 100000
set_option maxHeartbeats 4000000
namespace MX
open PySem PySem.Spec PyProof.Rows L2 GX
section
variable [TabL] {K : PySem.W.Frag} {E : XS}
def sParL (i j : Nat) (t : T) : S := fun ρ => match ρ[i]?, ρ[j]? with
  | some y, some z => if y.isIo = false ∧ z.isIo = false ∧ i ≠ j then .nx ((ρ.set i (.fz t)).set j (.ow (.lst []))) else .bot
  | _, _ => .bot
def sPar3L (i j l : Nat) (t u : T) : S := fun ρ => match ρ[i]?, ρ[j]?, ρ[l]? with
  | some y, some z, some x => if y.isIo = false ∧ z.isIo = false ∧ x.isIo = false ∧ i ≠ j ∧ j ≠ l then .nx (((ρ.set i (.fz t)).set j (.ow (.lst []))).set l (.fz u)) else .bot
  | _, _, _ => .bot
end
end MX
set_option Elab.async false
set_option linter.all false
set_option maxRecDepth 100000
set_option maxHeartbeats 4000000
namespace GX
open PySem PySem.Spec PyProof.Rows L2
section
open Builtin Builtin.ObjectAttr
variable {M : Model} {A : Around} {E : Value → Shared → Prop} {hp : Heap} {g : Array GenState} {d : Drawn} {t : Nat} {os : OsState}
/-- a later field: the dict is there -/
theorem own_later {K : PySem.W.Frag} {x C dx : Addr} {name : Str} {tk : Tok} {v : Value} {b : Bool} {fv : Array Value} {cd : ClassData} {Q : Fin → Shared → Prop} {m0 : Str → Option Value} {nl : List Str} (KX : K.In hp)
    (gx : hp.get? x = some { cls := .ref C, dict := some dx, data := .fields fv }) (kc : PySem.W.clsIn K C = some cd) (hd : cd.hasDict = true) (hns : hp.Ns1 dx m0) (hw : Within m0 nl) (hz : nl.length ≤ 1000)
    (q : ∀ h2 t2, (∀ b o, b ≠ dx → hp.get? b = some o → h2.get? b = some o) → h2.Ns1 dx (fun y => if y = name then some v else m0 y) → Q (.done (.ret .none)) ⟨h2, g, d, t2, os⟩) :
    wpAny M A (storeInOwnDict (.ref x) (.ref C) (.str name tk) name v b) Q E ⟨hp, g, d, t, os⟩ := by
  have lc : PySem.W.Looks M hp (classData C) cd := PySem.W.looks_clsIn KX kc
  obtain ⟨c1, c2, c3, c4, c5, c6, c7, c8, c9, c10, c11⟩ := cd
  dsimp only at hd
  subst hd
  unfold storeInOwnDict ownDictForStores
  repeat (first | with_reducible refine PySem.OEX.store_in_old hns hw hz ?_ | with_reducible refine wpAny_loadPart_at gx ?_ | with_reducible refine lc.at ?_ | wp_step)
  intro h2 t2 ns same
  exact q h2 t2 (fun c o ne co => (same.2 c ne).trans co) ns
end
section
variable {X : Cx} {pins : List (Addr × Obj)} {σ : L2.St} {H : Hp} {s : Shared} {a C dx : Addr} {f : Str} {y : V} {u : Value} {fs : List (Str × V)} {Q : Unit → Shared → Prop} {E : Value → Shared → Prop} {A : Around}
/-- self.f = y, a later field -/
theorem set_later (T : OexT X.K C) (I : Inv X pins σ H s) (e : H a = some (exo a C (some dx))) (ed : H dx = some (exd dx fs)) (hl : fs.length ≤ 900) (no : PySem.W.findIn X.K (.ref C) f = some none) (ry : RelV y u)
    (h : ∀ s2, Inv X pins σ (upd H dx (exd dx ((f, y) :: fs))) s2 → Q () s2) : wpAny (model X.prog X.w) A (setAttr (.ref a) f u) Q E s := by
  obtain ⟨B, tl, sf, ov, cd, kc, hd⟩ := T.over
  obtain ⟨t1, here⟩ := exo_at I.hok e
  obtain ⟨mA, hns, rel⟩ := exd_at I.hok ed
  have hw := within_of rel
  obtain ⟨hp, g, d, t, os⟩ := s
  obtain ⟨oD, _, _, hoD, _, _⟩ := hns.count hw
  have tk0 : PySem.W.takerIn X.K C f = some none := by
    unfold PySem.W.takerIn
    rw [no] <;> rfl
  refine PySem.W.set_plain I.kIn (ox := exV C t1 (some dx)) (od := some oD) ⟨here, rfl, rfl, hoD⟩ T.sa ?_
  refine PySem.W.osa_openX sf I.kIn (ox := exV C t1 (some dx)) (od := some oD) ⟨here, rfl, rfl, hoD⟩ ov tk0 fun b => ?_
  refine own_later I.kIn here kc hd hns hw (by rw [List.length_map]; omega) fun h2 t2 kept hn => ?_
  have hd2 : ∃ o, h2.get? dx = some o := by
    obtain ⟨o, _, _, e', _⟩ := hn
    exact ⟨o, e'⟩
  exact h _ (I.write (t' := t2) (x := dx) (e := dx) (o := exd dx ((f, y) :: fs)) (by rw [ed]; exact True.intro) (.inl rfl) kept hd2 (exd_ok hn (relO_put ry rel)))
def tLat (K : PySem.W.Frag) (f : Str) (to te : TE) : TS := fun D σ H => te σ H fun y H1 => to σ H1 fun x H2 => ∃ (a C dx : Addr) (fs : List (Str × V)), x = .ref a ∧ OexT K C ∧ PySem.W.findIn K (.ref C) f = some none ∧
  H2 a = some (exo a C (some dx)) ∧ H2 dx = some (exd dx fs) ∧ fs.length ≤ 900 ∧ D.nx σ (upd H2 dx (exd dx ((f, y) :: fs)))
theorem ps_lat {o e : Expr} {to te : TE} {p' pos : Pos} (ho : PE X o to) (he : PE X e te) (hs : swapsWith e (some (.Attribute o f p')) pos.line X.env = pure false := by rfl) : PS X (.Assign [.Attribute o f p'] e pos) (tLat X.K f to te) := by
  constructor
  intro pins s σ H D I h
  refine plainObj_wpAny_Assign_Attribute (thn (he.run pins s σ H _ I h) ?_) hs
  rintro v s1 ⟨y, H1, I1, r1, q1⟩
  refine thn (ho.run pins s1 σ H1 _ I1 q1) ?_
  rintro u s2 ⟨x, H2, I2, r2, a, C, dx, fs, rfl, T, no, ea, ed, hl, q⟩
  obtain rfl : u = Value.ref a := r2
  exact set_later T I2 ea ed hl no r1 fun s3 J => ⟨σ, _, J, q⟩
end
end GX
namespace MX
open PySem PySem.Spec PyProof.Rows L2 GX
def spXI2 (a0 : Addr) (f g : Str) : Sp := fun vs H Q _ => ∃ (a : Addr) (v u : V), vs = [.ref a, v, u] ∧ H a = some (exo a a0 none) ∧
  ∀ dx, H dx = none → dx ≠ a → Q .non (upd (upd (upd H dx (exd dx [(f, v)])) a (exo a a0 (some dx))) dx (exd dx [(g, u), (f, v)]))
def sRaise2 (C f g : Str) (as : M (List Vl)) : S := fun ρ => after (as ρ) fun xs ρ1 => match fixA ρ1 xs with
  | some ([t, u], ρ2) => .ex C [(g, u), (f, t)] ρ2
  | _ => .bot
end MX
set_option Elab.async false
set_option linter.all false
set_option maxRecDepth 100000
set_option maxHeartbeats 4000000
namespace MX
open PySem PySem.Spec PyProof.Rows L2 GX
section
variable {ρ : R}
def kRs3 (C f g : Str) (r : Res (List Vl)) : Out := after r fun xs ρ1 => match fixA ρ1 xs with
  | some ([t, u], ρ2) => .ex C [(g, u), (f, t)] ρ2
  | _ => .bot
def kRs4 (C f g : Str) (o : Option (List T × R)) : Out := match o with
  | some ([t, u], ρ2) => .ex C [(g, u), (f, t)] ρ2
  | _ => .bot
theorem go_rsB (C f g : Str) (as : M (List Vl)) : sRaise2 C f g as ρ = kRs3 C f g (as ρ) := nr rfl
theorem kRs3_ok (C f g : Str) (xs : List Vl) : kRs3 C f g (.ok xs ρ) = kRs4 C f g (fixA ρ xs) := nr rfl
theorem kRs4_ok (C f g : Str) (t u : T) : kRs4 C f g (some ([t, u], ρ)) = .ex C [(g, u), (f, t)] ρ := nr rfl
end
end MX
set_option Elab.async false
set_option linter.all false
set_option maxRecDepth 100000
set_option maxHeartbeats 4000000
namespace GX
open PySem PySem.Spec PyProof.Rows L2
end GX
set_option Elab.async false
set_option linter.all false
set_option maxRecDepth 100000
set_option maxHeartbeats 4000000
namespace PBx
open PySem PySem.Spec PyProof.Rows L2 GX
end PBx
namespace MX
open PySem PySem.Spec PyProof.Rows L2 GX PBx
end MX
set_option Elab.async false
set_option linter.all false
set_option maxRecDepth 100000
set_option maxHeartbeats 4000000
namespace MX
open PySem PySem.Spec PyProof.Rows L2 GX
end MX
set_option Elab.async false
set_option linter.all false
set_option maxRecDepth 100000
set_option maxHeartbeats 4000000
namespace OX
open PySem PySem.Spec PyProof.Rows L2
section
variable {X : Cx} {e : Expr} {es : List Expr} {ta : TA} {p pos : Pos}
/-- C(e, ..), held: C's own __init__ keeping sp -/
def tMkE (C : Addr) (sp : Sp) (dvs : List V) (ta : TA) : TE := fun σ H Q => ta σ H fun vs H1 => vs.length ≤ 1000 ∧ ∀ a, H1 a = none → sp (.ref a :: (vs ++ dvs)) (upd H1 a (exo a C none)) (fun v H2 => v = .non ∧ Q (.ref a) H2) E0
/-- e.f of a held error -/
def tXe (K : PySem.W.Frag) (n : Str) (te : TE) : TE := fun σ H Q => te σ H fun x H1 => ∃ (a C d : Addr) (fs : List (Str × V)) (v : V), x = .ref a ∧ XfC K C ∧ PySem.W.findIn K (.ref C) n = some none ∧ H1 a = some (exo a C (some d)) ∧ H1 d = some (exd d fs) ∧ fs.lookup n = some v ∧ Q v H1
theorem pe_fldE {te : TE} {n : Str} (he : PE X e te) (hb : attributeBase e n X.env (eval e X.env) = eval e X.env := by rfl) : PE X (.Attribute e n pos) (tXe X.K n te) := by
  refine ⟨fun pins s σ H Q I h => ?_⟩
  refine attr_of hb (thn (he.run pins s σ H _ I h) fun u s1 hh => ?_)
  obtain ⟨x, H1, I1, rx, a, C, d, fs, v, ex, T, hno, ea, ed, l, q⟩ := hh
  subst ex
  obtain rfl : u = Value.ref a := rx
  obtain ⟨t1, hoe⟩ := exo_at I1.hok ea
  obtain ⟨mA, hns, rel⟩ := exd_at I1.hok ed
  obtain ⟨od, ho, hl⟩ := lookIn_ns hns
  have J : PySem.W.InstAt s1.heap a { cls := .ref C, dict := some d, data := .fields #[.ref t1, .none, .none, .none, .bool false, .none] } C (some od) := ⟨hoe, rfl, rfl, ho⟩
  obtain ⟨u, hu, ru⟩ := RelO.some_of (v := v) (o := mA n) (by rw [← l]; exact rel n)
  exact HandSPX.exc_get I1.kIn J T.ga T.gg T.exC (PySem.W.findObj_own T.hdC hno rfl (by rw [hl, hu])) (handed_of ru) ⟨v, H1, I1.tok _, ru, q⟩
end
end OX
set_option Elab.async false
set_option linter.all false
set_option maxRecDepth 100000
set_option maxHeartbeats 4000000
namespace GX
open PySem PySem.Spec PyProof.Rows L2
section
variable {prog : Program} {w : World} {M : Model} {A : Around} {E : Value → Shared → Prop} {R : Result → Shared → Prop} {h : Heap} {g : Array GenState} {d : Drawn} {t : Nat} {os : OsState}
variable {nm q : Str} {C N fI : Addr} {bs bm tl : List Value} {hdct ab : Bool} {sn : List Str} {sub rest : List Value} {col : Option Bool} {dd : Option Addr} {m0 m1 m2 m3 m5 : Option Value} {B nw ini : String} {kw : List (Str × Value)}
/-- the row of such a __new__ takes any keywords -/
theorem ck_kw (FB : ExcBaseFacts B nw ini tl) (inT : ∀ Y : String, bm.contains (.type Y) = tl.contains (.type Y)) {Q : Unit → Shared → Prop}
    (look : h.get? C = some (excClassObj nm q C N bs bm hdct sn sub ab col dd m0 m1 m2 m3 m5 nw)) (z : Q () ⟨h, g, d, t, os⟩) :
    wpAny M A (checkBuiltinCall nw ⟨.ref C :: rest, kw⟩) Q E ⟨h, g, d, t, os⟩ := by
  have isB : (Value.ref C :: bm).contains (.type B) = true := by
    rw [List.contains_cons, inT, FB.hasB]
    exact Bool.or_true _
  have st := FB.noStar
  simp only [checkBuiltinCall, FB.newKind, FB.newSplit, FB.newRow]
  repeat (first
    | refine wpAny_loadPart_at look ?_
    | (refine wpAny_isSubtype_exc look ?_
       rw [isB])
    | refine wpAny_staticBase_exc look ?_
    | refine wpAny_madeBy_exc look ?_
    | simp only [bne_self_eq_false, Bool.false_eq_true, if_false]
    | wp_step)
  exact z
theorem new_kw (FB : ExcBaseFacts B nw ini tl) (inT : ∀ Y : String, bm.contains (.type Y) = tl.contains (.type Y))
    (look : h.get? C = some (excClassObj nm q C N bs bm hdct sn sub ab col dd m0 m1 m2 m3 m5 nw)) (few : rest.length ≤ sizeLine)
    (z : R (.ok (.ret (.ref (h.objs.size + 1)))) ⟨(h.push (PySem.W.kdv_tup rest)).push (PySem.HandSPX.excO C h.objs.size), g, d, t, os⟩) :
    codeAny (model prog w) A (.builtin nw ⟨.ref C :: rest, kw⟩) R ⟨h, g, d, t, os⟩ := by
  have y0 := FB.ends
  have y1 : (Value.ref C :: bm).contains (.type B) = true := by
    rw [List.contains_cons, inT, FB.hasB]
    exact Bool.or_true _
  have y2 : (Value.ref C :: bm).contains (.type "AttributeError") = false := by
    rw [List.contains_cons, inT, FB.noAttr]
    rfl
  have y3 : (Value.ref C :: bm).contains (.type "NameError") = false := by
    rw [List.contains_cons, inT, FB.noName]
    rfl
  refine codeAny_builtinAt FB.entry ?_
  unfold Builtin.«BaseException.__new__»
  refine PySem.wpAt_bind ?_
  show PySem.wpAt _ _ _ (stack >>= _) _ _ _
  refine PySem.wpAt_bind (PySem.wpAt_stack fun p below => PySem.wpAt_of_wpAny ?_)
  wp_walk
  refine PySem.wpAt_of_wpAny ?_
  rw [FB.owner]
  repeat (first
    | with_reducible refine wpAny_madeHere_exc FB.canon look ?_
    | with_reducible refine wpAny_loadPart_at look ?_
    | (with_reducible refine wpAny_isSubtype_exc look ?_
       first
       | rw [y1]
       | rw [y2]
       | rw [y3])
    | wp_step)
  show R _ _
  rw [Heap.size_push]
  exact z
theorem type_kw (FB : ExcBaseFacts B nw ini tl) (inT : ∀ Y : String, bm.contains (.type Y) = tl.contains (.type Y)) {Q : Fin → Shared → Prop}
    (look : h.get? C = some (excClassObj nm q C N bs bm hdct sn sub ab col dd m0 m1 m2 m3 m5 nw)) (few : rest.length ≤ sizeLine)
    (hi : PySem.W.Looks (model prog w) h (typeLookup (.ref C) "__init__") (some (.ref fI)))
    (hb : ∀ self, PySem.W.Looks (model prog w) h (bindSpecial (.ref fI) self) (.ref fI, [self]))
    (z : codeAny (model prog w) A (.call (.ref fI) ⟨.ref (h.objs.size + 1) :: rest, kw⟩)
      (fun r s' => match r with
        | .ok (.ret v) => v = .none ∧ Q (.done (.ret (.ref (h.objs.size + 1)))) s'
        | .ok _ => False
        | .error e => E e s') ⟨(h.push (PySem.W.kdv_tup rest)).push (PySem.HandSPX.excO C h.objs.size), g, d, t, os⟩) :
    wpAny (model prog w) A (Builtin.«type.__call__» ⟨.ref C :: rest, kw⟩) Q E ⟨h, g, d, t, os⟩ := by
  repeat (first
    | with_reducible refine wpAny_loadPart_at look ?_
    | with_reducible refine wpAny_madeBy_exc look ?_
    | wp_step)
  refine codeAny_call_builtin_code (Code.quiet_builtin _ FB.quiet) (ck_kw FB inT look (new_kw FB inT look few ?_))
  show wpAny _ _ _ _ _ _
  have kp : ∀ b o, h.get? b = some o → ((h.push (PySem.W.kdv_tup rest)).push (PySem.HandSPX.excO C h.objs.size)).get? b = some o := fun b o e => Heap.get?_push_of_some _ (Heap.get?_push_of_some _ e)
  have l1 := kp _ _ look
  have got : ((h.push (PySem.W.kdv_tup rest)).push (PySem.HandSPX.excO C h.objs.size)).get? (h.objs.size + 1) = some (PySem.HandSPX.excO C h.objs.size) := by heap_get
  have self : (Value.ref C :: bm).contains (.ref C) = true := by simp
  have i1 := hi.keeps kp
  have b1 := (hb (.ref (h.objs.size + 1))).keeps kp
  unfold isInstance
  repeat (first
    | with_reducible refine wpAny_loadPart_at got ?_
    | (with_reducible refine wpAny_isSubtype_exc l1 ?_
       rw [self])
    | wp_step)
  show wpAny _ _ (typeLookup (.ref C) _) _ _ _
  refine i1.at ?_
  refine wpAny_holding (wpAny_bind (b1.at ?_))
  refine wpAny_bind (wpAny_call (codeAny_mono z fun r s' y => ?_))
  rcases r with e | (v | _ | _ | _) <;> first
    | exact y
    | exact y.elim
    | skip
  obtain ⟨rfl, y⟩ := y
  first
    | exact wpAny_pure (wpAny_pure y)
    | (wp_walk
       exact y)
theorem call_kw (FB : ExcBaseFacts B nw ini tl) (inT : ∀ Y : String, bm.contains (.type Y) = tl.contains (.type Y))
    (look : h.get? C = some (excClassObj nm q C N bs bm hdct sn sub ab col dd m0 m1 m2 m3 m5 nw)) (few : rest.length ≤ sizeLine)
    (hi : PySem.W.Looks (model prog w) h (typeLookup (.ref C) "__init__") (some (.ref fI)))
    (hb : ∀ self, PySem.W.Looks (model prog w) h (bindSpecial (.ref fI) self) (.ref fI, [self]))
    (z : codeAny (model prog w) (A.under (.builtin "type.__call__" ⟨.ref C :: rest, kw⟩)) (.call (.ref fI) ⟨.ref (h.objs.size + 1) :: rest, kw⟩) (PySem.W.InitBack (h.objs.size + 1) R)
      ⟨(h.push (PySem.W.kdv_tup rest)).push (PySem.HandSPX.excO C h.objs.size), g, d, t, os⟩) :
    codeAny (model prog w) A (.call (.ref C) ⟨rest, kw⟩) R ⟨h, g, d, t, os⟩ := by
  have f1 := tc_lookup
  have f2 := tc_bind (.ref C)
  have hTy : (⟨h, g, d, t, os⟩ : Shared).TypeIs (.ref C) "type" := ⟨_, look, rfl⟩
  refine codeAny_of_tree ?_
  show wpAny _ _ (callAny (.ref C) _) _ _ _
  repeat (any_goals (first
    | assumption
    | with_reducible refine wpAny_loadPart_at look ?_
    | wp_step))
  refine ⟨rfl, ?_⟩
  refine codeAny_call_builtin_at (Code.quiet_builtin _ (by decide +kernel)) entry_typeCall (wpAny_check_type_call_sub look (type_kw FB inT look few hi hb ?_))
  refine codeAny_mono z fun r s' y => ?_
  rcases r with e | (v | _ | _ | _)
  all_goals exact y
end
section
variable {X : Cx} {e : Expr} {es : List Expr} {ta tb : TA} {p pos : Pos}
/-- C(e, ..), held: any base -/
theorem pe_hold {CX : CXT} {x : Str} {C fI : Addr} {k : Nat} {fd : FuncData} {ps : List Str} {sp : Sp} {ds : List Value} {dvs : List V} (T : OexT X.K C) (iC : PySem.W.findIn X.K (.ref C) "__init__" = some (some (.ref fI))) (tI : PySem.W.typeIn X.K (.ref fI) = some (.type "function"))
    (F1 : FnOk X.prog X.w X.K X.mg X.base CX k fI fd ps sp) (hr : Room (k + 1) X.A) (hb : Binds X.K fd ps ds) (hd : Vals dvs ds) (hx : Passes CX X E0) (hg : Gl X x) (hm : X.mg x = some (.ref C)) (ha : PA X (e :: es) ta)
    (hdb : (x == ("__debug__" : Str)) = false := by decide) (he : starEach (e :: es) X.env = (false, eval e X.env) :: starEach es X.env := by rfl) (hpl : (backTo pos (starEach es X.env)).any (·.1) = false := by rfl) :
    PE X (.Call (.Name x p) (e :: es) [] pos) (OX.tMkE C sp dvs ta) := by
  constructor
  intro pins s σ H Q I h
  obtain ⟨B, newId, initId, tl, sf, fb, n0, q0, N, bs, bm, sn, sb, ab, co, dd, m0, m1, m2, m3, m5, lk, et⟩ := T.facts
  refine wpAny_Call_Name_kw (ld_glob I hg hm ?_ hdb)
  refine PySem.W.callWith_K (h₀ := X.base) I.ok.mod.kin T.kp (thn (ha.run pos pins s σ H _ I h) ?_) he hpl
  rintro us s1 ⟨vs, H1, I1, rv, hz, q1⟩
  refine ⟨I1.kIn, ?_⟩
  show wpAny _ _ (call (.ref C) us) _ _ _
  obtain ⟨hp, g, dr, tk, os⟩ := s1
  have le1 : hp.objs.size ≤ hp.objs.size + 1 := Nat.le_succ _
  have hq := q1 (hp.objs.size + 1) (I1.hok.fresh le1)
  have keep : ∀ b o, hp.get? b = some o → ((hp.push (PySem.W.kdv_tup us)).push (PySem.HandSPX.excO C hp.objs.size)).get? b = some o := fun b o z => Heap.get?_push_of_some _ (Heap.get?_push_of_some _ z)
  have at1 : ((hp.push (PySem.W.kdv_tup us)).push (PySem.HandSPX.excO C hp.objs.size)).get? (hp.objs.size + 1) = some (PySem.HandSPX.excO C hp.objs.size) := by heap_get
  have I2 := I1.laid (t' := tk) (a := hp.objs.size + 1) (o := exo (hp.objs.size + 1) C none) keep le1 (exo_ok at1)
  have r2 : Vals (V.ref (hp.objs.size + 1) :: (vs ++ dvs)) (Value.ref (hp.objs.size + 1) :: (us ++ ds)) := .cons rfl (rv.append hd)
  have hl : (Value.ref (hp.objs.size + 1) :: us ++ ds).length = ps.length := (F1.len _ _ _ _ hq).symm.trans r2.length |>.symm
  have hus : us.length ≤ sizeLine := by
    have := Paired.length rv
    rw [sizeLine_eq]
    omega
  refine wpAny_call (call_kw fb (fun Y => PySem.W.excTail_contains Y bm et) (I1.kIn _ _ lk) hus (PySem.W.looks_findIn I1.kIn iC) (fun self => PySem.W.bind_fn I1.kIn self tI) ?_)
  refine codeAny_mono (F1.run _ X.stack _ _ ⟨Value.ref (hp.objs.size + 1) :: us, []⟩ _ _ _ E0 (hr.make C us []) (I2.env0.make C us []) (hb _ (Value.ref (hp.objs.size + 1) :: us) I2.kIn hl) r2 hq) ?_
  rintro (er | fl) s2 z
  · exact hx pins σ _ _ er s2 I2 z
  cases fl with
  | ret u =>
    obtain ⟨v, H2, J, ru, ev, q2⟩ := I2.after z
    subst ev
    exact ⟨ru, .ref (hp.objs.size + 1), H2, J, rfl, q2⟩
  | next => exact z.elim
  | brk => exact z.elim
  | cont => exact z.elim
/-- C(f = e, ..), held -/
def tMkEK (C : Addr) (n : Nat) (sp : Sp) (gV : List V → List V → List V) (tk : TA) : TE := fun σ H Q => tk σ H fun zs H1 => zs.length = n ∧ ∀ a, H1 a = none → sp (gV [.ref a] zs) (upd H1 a (exo a C none)) (fun v H2 => v = .non ∧ Q (.ref a) H2) E0
theorem pe_holdK {CX : CXT} {x : Str} {C fI : Addr} {k : Nat} {fd : FuncData} {ps ks : List Str} {sp : Sp} {kws : List Keyword} {tk : TA} {g : List Value → List Value → List Value} {gV : List V → List V → List V} (T : OexT X.K C) (iC : PySem.W.findIn X.K (.ref C) "__init__" = some (some (.ref fI))) (tI : PySem.W.typeIn X.K (.ref fI) = some (.type "function"))
    (F1 : FnOk X.prog X.w X.K X.mg X.base CX k fI fd ps sp) (hr : Room (k + 1) X.A) (hb : KBn X.K fd ps 1 ks g gV) (hx : Passes CX X E0) (hg : Gl X x) (hm : X.mg x = some (.ref C)) (hkw : PK X kws tk)
    (h1 : (backToKw pos (keywordEach kws X.env)).all (·.1.isSome) = true := by rfl)
    (h2 : (backToKw pos (keywordEach kws X.env)).filterMap (·.1) = ks := by rfl)
    (hdb : (x == ("__debug__" : Str)) = false := by decide)
    (h3 : ((backTo pos (starEach [] X.env)).any (·.1) || (backToKw pos (keywordEach kws X.env)).any (·.1.isNone)) = false := by rfl) :
    PE X (.Call (.Name x p) [] kws pos) (tMkEK C ks.length sp gV tk) := by
  constructor
  intro pins s σ H Q I h
  obtain ⟨B, newId, initId, tl, sf, fb, n0, q0, N, bs, bm, sn, sb, ab, co, dd, m0, m1, m2, m3, m5, lk, et⟩ := T.facts
  refine wpAny_Call_Name_kw (ld_glob I hg hm ?_ hdb)
  refine PySem.W.callWith_KW0 (h₀ := X.base) I.ok.mod.kin T.kp h1 (thn (hkw.run pos pins s σ H _ I h) ?_) h3
  rintro ws s1 ⟨zs, H1, I1, rz, hz, q1⟩
  refine ⟨I1.kIn, ?_⟩
  rw [h2]
  show wpAny _ _ (call (.ref C) [] (ks.zip ws)) _ _ _
  obtain ⟨hp, g0, dr, t0, os⟩ := s1
  have le1 : hp.objs.size ≤ hp.objs.size + 1 := Nat.le_succ _
  have hq := q1 (hp.objs.size + 1) (I1.hok.fresh le1)
  have keep : ∀ b o, hp.get? b = some o → ((hp.push (PySem.W.kdv_tup [])).push (PySem.HandSPX.excO C hp.objs.size)).get? b = some o := fun b o z => Heap.get?_push_of_some _ (Heap.get?_push_of_some _ z)
  have at1 : ((hp.push (PySem.W.kdv_tup [])).push (PySem.HandSPX.excO C hp.objs.size)).get? (hp.objs.size + 1) = some (PySem.HandSPX.excO C hp.objs.size) := by heap_get
  have I2 := I1.laid (t' := t0) (a := hp.objs.size + 1) (o := exo (hp.objs.size + 1) C none) keep le1 (exo_ok at1)
  have r1 : Vals [V.ref (hp.objs.size + 1)] [Value.ref (hp.objs.size + 1)] := .cons rfl .nil
  have r2 := hb.rel r1 rz
  have e2 : ws.length = ks.length := rz.length.symm.trans hz
  refine wpAny_call (call_kw fb (fun Y => PySem.W.excTail_contains Y bm et) (I1.kIn _ _ lk) (by show 0 ≤ sizeLine; exact Nat.zero_le _) (PySem.W.looks_findIn I1.kIn iC) (fun self => PySem.W.bind_fn I1.kIn self tI) ?_)
  refine codeAny_mono (F1.run _ X.stack _ _ ⟨[Value.ref (hp.objs.size + 1)], ks.zip ws⟩ (g [Value.ref (hp.objs.size + 1)] ws) _ _ E0 (hr.make C [] (ks.zip ws)) (I2.env0.make C [] (ks.zip ws)) (hb.to _ [Value.ref (hp.objs.size + 1)] ws I2.kIn rfl e2) r2 hq) ?_
  rintro (er | fl) s2 z
  · exact hx pins σ _ _ er s2 I2 z
  cases fl with
  | ret u =>
    obtain ⟨v, H2, J, ru, ev, q2⟩ := I2.after z
    subst ev
    exact ⟨ru, .ref (hp.objs.size + 1), H2, J, rfl, q2⟩
  | next => exact z.elim
  | brk => exact z.elim
  | cont => exact z.elim
/-- C(), C without an __init__ of its own -/
def tMkE0 (C : Addr) : TE := fun σ H Q => ∀ a, H a = none → Q (.ref a) (upd H a (exo a C none))
theorem pe_hold0 {x : Str} {C : Addr} {B nw ini : String} {tl : List Value} (FB : ExcBaseFacts B nw ini tl) (q : PySem.W.excIn X.K C tl nw = true) (kC : PySem.W.keepIn X.K (.ref C) = true) (hg : Gl X x) (hm : X.mg x = some (.ref C))
    (hdb : (x == ("__debug__" : Str)) = false := by decide) : PE X (.Call (.Name x p) [] [] pos) (tMkE0 C) := by
  constructor
  intro pins s σ H Q I h
  refine wpAny_Call_Name_kw (ld_glob I hg hm ?_ hdb)
  refine PySem.W.callWith_K0 I.kIn kC ?_
  show wpAny _ _ (call (.ref C) []) _ _ _
  obtain ⟨bm, N, nm, qn, bs, hdct, sn, sub, ab, col, dd, k0, k1, k2, k3, k5, mN, hC, hN, hni, T⟩ := exc_obj I.kIn q
  refine wpAny_call_exc_subT FB T hC hN hni (fun h' e hm2 => ?_) (Nat.zero_le _)
  obtain ⟨t1, he, _, _⟩ := hm2.there
  exact ⟨.ref e, _, I.laidN (t' := s.toks) (o := exo e C none) hm2.keeps hm2.new (I.hok.gone hm2.new) (exo_ok he), rfl, h e (I.hok.gone hm2.new)⟩
/-- the dict of an error that is held, where it has one -/
def XdIn (H : Hp) (od : Option Addr) (fs : List (Str × V)) : Prop := (od = none ∧ fs = []) ∨ ∃ d, od = some d ∧ H d = some (exd d fs)
theorem inst_held {pins : List (Addr × Obj)} {σ : L2.St} {H : Hp} {s : Shared} {a C : Addr} {od : Option Addr} {fs : List (Str × V)} (I : Inv X pins σ H s) (ea : H a = some (exo a C od)) (ed : XdIn H od fs) :
    ∃ (oe : Obj) (on : Option Obj), PySem.W.InstAt s.heap a oe C on := by
  obtain ⟨t1, he⟩ := exo_at I.hok ea
  rcases ed with ⟨rfl, _⟩ | ⟨d, rfl, ed⟩
  · exact ⟨_, none, he, rfl, rfl, trivial⟩
  · obtain ⟨mA, hns, rel⟩ := exd_at I.hok ed
    obtain ⟨o, ho, hl⟩ := lookIn_ns hns
    exact ⟨_, some o, he, rfl, rfl, ho⟩
/-- isinstance(e, D) of a held error -/
def rIsH (K : PySem.W.Frag) : List V → Hp → VK → Prop := fun xs H Q => ∃ (a C : Addr) (od : Option Addr) (fs : List (Str × V)) (c : V) (cv : Value) (b : Bool), xs = [.ref a, c] ∧ (∀ u, RelV c u → u = cv) ∧ ExcC K C ∧ H a = some (exo a C od) ∧ XdIn H od fs ∧ PySem.W.kitOne K (.ref C) cv = some b ∧ Q (.bl b) H
theorem call_isH : CallR X (.builtin "isinstance") (rIsH X.K) := by
  intro pins s σ H xs us Q I r h
  obtain ⟨a, C, od, fs, c, cv, b, rfl, hcv, E, ea, ed, e, q⟩ := h
  obtain ⟨u1, u2, rfl, r1, r2⟩ := vals2 r
  have e1 : u1 = Value.ref a := r1
  subst e1
  have e2 := hcv _ r2
  subst e2
  obtain ⟨oe, on, J⟩ := inst_held I ea ed
  exact PySem.W.kia_one (PySem.W.gx_kit E) I.kIn ⟨_, _, J⟩ e (fun z => nomatch z) (fun tk => ⟨.bl b, H, I.kept (t' := tk) (fun _ _ z => z), rfl, q⟩)
end
end GX
set_option Elab.async false
set_option linter.all false
set_option maxRecDepth 100000
set_option maxHeartbeats 4000000
namespace MX
open PySem PySem.Spec PyProof.Rows L2 GX
section
variable [TabL] {K : PySem.W.Frag} {E : XS} {B : Bs} {G G1 H H1 : Hp} {σ : L2.St} {ρ : R}
/-- an error laid down and held -/
theorem held_laid {x dx a : Addr} {C : Str} {fs : List (Str × V)} {gs : List (Str × T)} (n : nm K C = a) (h : RS K B G H σ ρ) (hx : H x = none) (hd : H dx = none) (ne : dx ≠ x) (r : RepF K G fs gs) :
    ∃ G', Same G G' ∧ RS K B G' (upd (upd H dx (exd dx fs)) x (exo x a (some dx))) σ ρ ∧ Rep K G' (.ref x) (.err C gs) := by
  have h3 := h.laid (o := exd dx fs) hd fun _ z => nomatch z
  have hx3 : upd H dx (exd dx fs) x = none := by
    rw [upd_ne fun z => ne z.symm]
    exact hx
  have h4 := h3.laid (o := exo x a (some dx)) hx3 fun _ z => nomatch z
  have s3 : Same G (upd G dx (exd dx fs)) := same_new (h.sub.free hd)
  have s4 : Same (upd G dx (exd dx fs)) (upd (upd G dx (exd dx fs)) x (exo x a (some dx))) := same_new (h3.sub.free hx3)
  refine ⟨_, s3.trans s4, h4, .err (od := some dx) (fs := fs) ?_ (.inr ⟨dx, rfl, ?_⟩) (r.mono (s3.trans s4))⟩
  · rw [n]
    exact upd_same
  · exact s4 _ _ upd_same
theorem held_eq {H1 : Hp} {x dx a : Addr} {fs : List (Str × V)} (ne : dx ≠ x) : upd (upd (upd H1 x (exo x a none)) dx (exd dx fs)) x (exo x a (some dx)) = upd (upd H1 dx (exd dx fs)) x (exo x a (some dx)) := by
  funext b
  by_cases c : b = x
  · rw [c, upd_same, upd_same]
  · rw [upd_ne c, upd_ne c]
    by_cases c2 : b = dx
    · rw [c2, upd_same, upd_same]
    · rw [upd_ne c2, upd_ne c2, upd_ne c]
theorem held_eq2 {H1 : Hp} {x dx a : Addr} {fs fs' : List (Str × V)} (ne : dx ≠ x) : upd (upd (upd (upd H1 x (exo x a none)) dx (exd dx fs)) x (exo x a (some dx))) dx (exd dx fs') = upd (upd H1 dx (exd dx fs')) x (exo x a (some dx)) := by
  funext b
  by_cases c2 : b = dx
  · rw [c2, upd_same, upd_ne ne, upd_same]
  · rw [upd_ne c2]
    by_cases c : b = x
    · rw [c, upd_same, upd_same]
    · rw [upd_ne c, upd_ne c2, upd_ne c, upd_ne c, upd_ne c2]
/-- C(e) with one field -/
def eHold (C f : Str) (as : M (List Vl)) : M Vl := fun ρ => bindR (as ρ) fun xs ρ1 => match fixA ρ1 xs with
  | some ([t], ρ2) => .ok (.val (.err C [(f, t)])) ρ2
  | _ => .bot
/-- C(e, e') with two fields -/
def eHold2 (C f g : Str) (as : M (List Vl)) : M Vl := fun ρ => bindR (as ρ) fun xs ρ1 => match fixA ρ1 xs with
  | some ([t, u], ρ2) => .ok (.val (.err C [(g, u), (f, t)])) ρ2
  | _ => .bot
/-- C(g = e', f = e) -/
def eHold2K (C f g : Str) (as : M (List Vl)) : M Vl := fun ρ => bindR (as ρ) fun xs ρ1 => match fixA ρ1 xs with
  | some ([u, t], ρ2) => .ok (.val (.err C [(g, u), (f, t)])) ρ2
  | _ => .bot
def eHold0 (C : Str) : M Vl := fun ρ => .ok (.val (.err C [])) ρ
theorem spXI_held {a : Addr} {f C : Str} {v : V} {t : T} {x : Addr} {Q : VK} (n : nm K C = a) (h : RS K B G H1 σ ρ) (r : Rep K G v t) (hx : H1 x = none) (w : ∀ G' H', Same G G' → RS K B G' H' σ ρ → Rep K G' (.ref x) (.err C [(f, t)]) → Q (.ref x) H') :
    spXI a f [.ref x, v] (upd H1 x (exo x a none)) (fun z H2 => z = .non ∧ Q (.ref x) H2) E0 := by
  refine ⟨x, v, rfl, upd_same, fun dx n1 ne => ⟨rfl, ?_⟩⟩
  rw [upd_ne ne] at n1
  rw [held_eq ne]
  obtain ⟨G', s', h', r'⟩ := held_laid n h hx n1 ne (.cons r .nil : RepF K G [(f, v)] [(f, t)])
  exact w _ _ s' h' r'
theorem spXI2_held {a : Addr} {f g C : Str} {v v2 : V} {t t2 : T} {x : Addr} {Q : VK} (n : nm K C = a) (h : RS K B G H1 σ ρ) (r : Rep K G v t) (r2 : Rep K G v2 t2) (hx : H1 x = none) (w : ∀ G' H', Same G G' → RS K B G' H' σ ρ → Rep K G' (.ref x) (.err C [(g, t2), (f, t)]) → Q (.ref x) H') :
    spXI2 a f g [.ref x, v, v2] (upd H1 x (exo x a none)) (fun z H2 => z = .non ∧ Q (.ref x) H2) E0 := by
  refine ⟨x, v, v2, rfl, upd_same, fun dx n1 ne => ⟨rfl, ?_⟩⟩
  rw [upd_ne ne] at n1
  rw [held_eq2 ne]
  obtain ⟨G', s', h', r'⟩ := held_laid n h hx n1 ne (.cons r2 (.cons r .nil) : RepF K G [(g, v2), (f, v)] [(g, t2), (f, t)])
  exact w _ _ s' h' r'
theorem me_hold {C f : Str} {a : Addr} {ta : TA} {as : M (List Vl)} (n : nm K C = a) (ha : MA K E ta as) : ME K E (OX.tMkE a (spXI a f) [] ta) (eHold C f as) := fun B G H σ ρ Q h w => by
  refine ha B G H σ ρ _ h (WnP.imp (WnP.bind w) (Same.refl G) fun xs ρ1 w1 vs G1 H1 s1 h1 q1 => ?_)
  split at w1
  · next t ρ2 e2 =>
    obtain ⟨G2, s2, h2, r2⟩ := fixA_ok h1 q1 e2
    cases r2 with
    | @cons v _ vs _ r r2 =>
      cases r2
      exact ⟨(by show 1 ≤ 1000; decide), fun x hx => spXI_held n h2 r hx fun G' H' s' h' r' => w1 (.ref x) G' H' ((s1.trans s2).trans s') h' r'⟩
  · cases w1
theorem me_holdK {C f : Str} {a : Addr} {gV : List V → List V → List V} {tk : TA} {as : M (List Vl)} (n : nm K C = a) (hg : ∀ x v, gV [x] [v] = [x, v]) (ha : MA K E tk as) : ME K E (tMkEK a 1 (spXI a f) gV tk) (eHold C f as) := fun B G H σ ρ Q h w => by
  refine ha B G H σ ρ _ h (WnP.imp (WnP.bind w) (Same.refl G) fun xs ρ1 w1 vs G1 H1 s1 h1 q1 => ?_)
  split at w1
  · next t ρ2 e2 =>
    obtain ⟨G2, s2, h2, r2⟩ := fixA_ok h1 q1 e2
    cases r2 with
    | @cons v _ vs _ r r2 =>
      cases r2
      refine ⟨rfl, fun x hx => ?_⟩
      rw [hg]
      exact spXI_held n h2 r hx fun G' H' s' h' r' => w1 (.ref x) G' H' ((s1.trans s2).trans s') h' r'
  · cases w1
theorem me_hold2 {C f g : Str} {a : Addr} {ta : TA} {as : M (List Vl)} (n : nm K C = a) (ha : MA K E ta as) : ME K E (OX.tMkE a (spXI2 a f g) [] ta) (eHold2 C f g as) := fun B G H σ ρ Q h w => by
  refine ha B G H σ ρ _ h (WnP.imp (WnP.bind w) (Same.refl G) fun xs ρ1 w1 vs G1 H1 s1 h1 q1 => ?_)
  split at w1
  · next t u ρ2 e2 =>
    obtain ⟨G2, s2, h2, r2⟩ := fixA_ok h1 q1 e2
    cases r2 with
    | @cons v _ vs _ r r2 =>
      cases r2 with
      | @cons v2 _ vs _ r' r2 =>
        cases r2
        exact ⟨(by show 2 ≤ 1000; decide), fun x hx => spXI2_held n h2 r r' hx fun G' H' s' h' r' => w1 (.ref x) G' H' ((s1.trans s2).trans s') h' r'⟩
  · cases w1
theorem me_hold2K {C f g : Str} {a : Addr} {gV : List V → List V → List V} {tk : TA} {as : M (List Vl)} (n : nm K C = a) (hg : ∀ x v u, gV [x] [u, v] = [x, v, u]) (ha : MA K E tk as) : ME K E (tMkEK a 2 (spXI2 a f g) gV tk) (eHold2K C f g as) := fun B G H σ ρ Q h w => by
  refine ha B G H σ ρ _ h (WnP.imp (WnP.bind w) (Same.refl G) fun xs ρ1 w1 vs G1 H1 s1 h1 q1 => ?_)
  split at w1
  · next u t ρ2 e2 =>
    obtain ⟨G2, s2, h2, r2⟩ := fixA_ok h1 q1 e2
    cases r2 with
    | @cons v2 _ vs _ r' r2 =>
      cases r2 with
      | @cons v _ vs _ r r2 =>
        cases r2
        refine ⟨rfl, fun x hx => ?_⟩
        rw [hg]
        exact spXI2_held n h2 r r' hx fun G' H' s' h' r' => w1 (.ref x) G' H' ((s1.trans s2).trans s') h' r'
  · cases w1
theorem me_hold0 {C : Str} {a : Addr} (n : nm K C = a) : ME K E (tMkE0 a) (eHold0 C) := fun B G H σ ρ Q h w x hx => by
  refine w (.ref x) _ _ (same_new (h.sub.free hx)) (h.laid (o := exo x a none) hx fun _ z => nomatch z) ?_
  have : Rep K (upd G x (exo x a none)) (.ref x) (.err C []) := .err (od := none) (fs := []) (by rw [n]; exact upd_same) (.inl ⟨rfl, rfl⟩) .nil
  exact this
theorem Vw.err {v : V} {C : Str} {gs : List (Str × T)} (h : Vw K G H v (.err C gs)) : ∃ a od fs, v = .ref a ∧ G a = some (exo a (nm K C) od) ∧ XdAt G od fs ∧ RepF K G fs gs := by
  generalize ht : T.err C gs = t at h
  cases h with
  | fz r =>
    subst ht
    cases r with
    | err e x r => exact ⟨_, _, _, rfl, e, x, r⟩
  | own e r =>
    cases r with
    | lst => cases ht
    | ins => cases ht
    | dct => cases ht
def eFldH (C f : Str) (g : M Vl) : M Vl := fun ρ => bindR (g ρ) fun x ρ1 => match rdV ρ1 x with
  | some (.err C' gs) => if C' = C then (match gs.lookup f with
    | some t => .ok (.val t) ρ1
    | none => .bot) else .bot
  | _ => .bot
theorem me_fldH {C f : Str} {te : TE} {g : M Vl} (T : XfC K (nm K C)) (no : PySem.W.findIn K (.ref (nm K C)) f = some none) (hg : ME K E te g) : ME K E (OX.tXe K f te) (eFldH C f g) := fun B G H σ ρ Q h w => by
  refine hg B G H σ ρ _ h (WnP.imp (WnP.bind w) (Same.refl G) fun x ρ1 w1 v G1 H1 s1 h1 q1 => ?_)
  split at w1
  · next C' gs ex =>
    split at w1
    · next hh =>
      subst hh
      obtain ⟨a, od, fs, rfl, ea, xd, rf⟩ := (rd_ok h1 q1 ex).err
      split at w1
      · next t et =>
        obtain ⟨u, eu, ru⟩ := rf.look et
        rcases xd with ⟨_, rfl⟩ | ⟨d, rfl, ed⟩
        · cases eu
        · exact ⟨a, _, d, fs, u, rfl, T, no, h1.sub _ _ ea, h1.sub _ _ ed, eu, w1 u G1 H1 s1 h1 ru⟩
      · cases w1
    · cases w1
  · cases w1
def bIsH (tab : Str → List (Cv × Bool)) : List T → Option Vl
  | [.err C _, t] => (match cvOf t with
    | some c => (tabAt c (tab C)).map fun b => .val (.bl b)
    | none => none)
  | _ => none
theorem cm_isH {tab : Str → List (Cv × Bool)} (X : ∀ C, tab C ≠ [] → ExcC K (nm K C) ∧ ∀ r ∈ tab C, PySem.W.kitOne K (.ref (nm K C)) (r.1.val K) = some r.2) : CallM K (rIsH K) (bIsH tab) := fun B G H σ ρ vs ts z Q h r e q => by
  unfold bIsH at e
  split at e
  · next C gs t =>
    split at e
    · next c ec =>
      cases et : tabAt c (tab C) with
      | none =>
        rw [et] at e
        cases e
      | some b =>
        rw [et] at e
        cases e
        cases r with
        | cons x1 r =>
          cases r with
          | cons x2 r =>
            cases r
            obtain ⟨a, od, fs, rfl, ea, xd, rf⟩ := x1.err
            have hm := tabAt_mem et
            obtain ⟨X1, X2⟩ := X C fun z => by rw [z] at hm; cases hm
            refine ⟨a, _, od, fs, _, _, b, rfl, x2.cv ec, X1, h.sub _ _ ea, ?_, X2 _ hm, q _ _ _ (Same.refl G) h (.bl b)⟩
            rcases xd with ⟨e1, e2⟩ | ⟨d, e1, ed⟩
            · exact .inl ⟨e1, e2⟩
            · exact .inr ⟨d, e1, h.sub _ _ ed⟩
    · cases e
  · cases e
end
end MX
set_option Elab.async false
set_option linter.all false
set_option maxRecDepth 100000
set_option maxHeartbeats 4000000
namespace MX
open PySem PySem.Spec PyProof.Rows L2 GX
section
variable {K : PySem.W.Frag}
structure ErrF (K : PySem.W.Frag) (C : Str) (a : Addr) (fs : List Str) : Prop where
  nm : nm K C = a
  oex : OexT K a
  xf : XfC K a
  no : ∀ f ∈ fs, PySem.W.findIn K (.ref a) f = some none
def excB (K : PySem.W.Frag) (a : Addr) : Bool := decide (PySem.W.findIn K (.ref a) "__getattribute__" = some (some (.builtin "BaseException.__getattribute__"))) && decide (PySem.W.findIn K (.ref a) "__getattr__" = some none) &&
  decide (PySem.W.subIn K (.ref a) (.type "BaseException") = some true) && PySem.W.hasDictIn K a && decide (PySem.W.findIn K (.ref a) "__class__" = some (some (.builtin "object.__class__"))) &&
  decide (PySem.W.specialIn K (.builtin "object.__class__") "__get__" = some (some (.builtin "getset_descriptor.__get__"))) && decide (PySem.W.takesIn K (.builtin "object.__class__") = some true) && decide (PySem.W.mroIn K a (.type "object") = some true)
theorem excB_ok {a : Addr} (h : excB K a = true) : ExcC K a := by
  unfold excB at h
  simp only [Bool.and_eq_true, decide_eq_true_eq] at h
  obtain ⟨⟨⟨⟨⟨⟨⟨h1, h2⟩, h3⟩, h4⟩, h5⟩, h6⟩, h7⟩, h8⟩ := h
  exact ⟨h1, h2, h3, h4, h5, h6, h7, h8⟩
def errB (K : PySem.W.Frag) (a : Addr) (tl : List Value) (nw : String) (fs : List Str) : Bool := PySem.W.excInitIn K a tl nw && excB K a && decide (PySem.W.findIn K (.ref a) "__setattr__" = some (some (.builtin "object.__setattr__"))) &&
  decide (PySem.W.typeIn K (.ref a) = some (.type "type")) && PySem.W.keepIn K (.ref a) && fs.all fun f => decide (PySem.W.findIn K (.ref a) f = some none)
theorem errB_ok {C : Str} {a : Addr} {tl : List Value} {B nw ini : String} {fs : List Str} (n : nm K C = a) (sf : StoreFacts B tl "object.__setattr__" "object") (fb : ExcBaseFacts B nw ini tl) (h : errB K a tl nw fs = true) : ErrF K C a fs := by
  unfold errB at h
  simp only [Bool.and_eq_true, decide_eq_true_eq, List.all_eq_true] at h
  obtain ⟨⟨⟨⟨⟨q, h1⟩, h2⟩, h3⟩, h4⟩, h5⟩ := h
  have X := excB_ok h1
  refine ⟨n, ⟨⟨B, nw, ini, tl, sf, fb, ?_⟩, h2, X.hs, h3, h4⟩, ⟨X.hg, X.hk, X.hs, X.hd⟩, h5⟩
  have hd := X.hd
  unfold PySem.W.excInitIn at q
  split at q
  · rename_i dd cd sl ho
    split at q
    · rename_i C' bm k0 k1 k2 k3 n k5 hm hs
      simp only [Bool.and_eq_true, beq_iff_eq, Bool.not_eq_true'] at q
      obtain ⟨⟨⟨rfl, rfl⟩, hdel⟩, ht⟩ := q
      have hc : PySem.W.clsIn K C' = some cd := by
        unfold PySem.W.clsIn
        rw [ho] <;> rfl
      obtain ⟨nm, bs, mro, ns, qn, hdc, sn, sub, ab, col, del⟩ := cd
      dsimp only at hm hdel
      subst hm hdel
      have hdt : hdc = true := by
        unfold PySem.W.hasDictIn at hd
        rw [hc] at hd
        exact hd
      subst hdt
      obtain ⟨l⟩ := sl
      simp only at hs
      subst hs
      exact ⟨nm, qn, ns, bs, bm, sn, sub, ab, col, dd, k0, k1, k2, k3, k5, ho, ht⟩
    · cases q
  · cases q
def tabH (cols : List Cv) (TB : List (Str × List Cv)) (C : Str) : List (Cv × Bool) := match TB.lookup C with
  | some up => cols.map fun c => (c, decide (c ∈ up))
  | none => []
theorem tabAt_map {f : Cv → Bool} {c : Cv} : ∀ {cols : List Cv}, c ∈ cols → tabAt c (cols.map fun c => (c, f c)) = some (f c)
  | [], h => by cases h
  | d :: r, h => by
    show (if d = c then some (f d) else tabAt c (r.map fun c => (c, f c))) = _
    by_cases e : d = c
    · rw [if_pos e, e]
    · rw [if_neg e]
      rcases List.mem_cons.mp h with h | h
      · exact absurd h.symm e
      · exact tabAt_map h
def kCv (K : PySem.W.Frag) (l : List (Str × Addr)) (a : Addr) (c : Cv) (b : Bool) : Bool := match c with
  | .own D => (match l.lookup D with
    | some d => PySem.W.kitOne K (.ref a) (.ref d) == some b
    | none => false)
  | .blt n => PySem.W.kitOne K (.ref a) (.type n) == some b
def kAll (K : PySem.W.Frag) (l : List (Str × Addr)) (cols : List Cv) (TB : List (Str × List Cv)) : Bool := TB.all fun q => match l.lookup q.1 with
  | some a => excB K a && cols.all fun c => kCv K l a c (decide (c ∈ q.2))
  | none => false
theorem look_nm {C : Str} {a : Addr} : ∀ {l : List (Str × Addr)}, (∀ p ∈ l, nm K p.1 = p.2) → l.lookup C = some a → nm K C = a
  | [], _, e => by cases e
  | (D, d) :: r, h, e => by
    rw [List.lookup_cons] at e
    by_cases c : (C == D) = true
    · rw [c] at e
      cases e
      have := h _ List.mem_cons_self
      rw [beq_iff_eq] at c
      rw [c]
      exact this
    · have c : (C == D) = false := by simpa using c
      rw [c] at e
      exact look_nm (fun p hp => h p (List.mem_cons_of_mem _ hp)) e
theorem look_mem {α : Type} {C : Str} {x : α} : ∀ {l : List (Str × α)}, l.lookup C = some x → (C, x) ∈ l
  | [], e => by cases e
  | (D, d) :: r, e => by
    rw [List.lookup_cons] at e
    by_cases c : (C == D) = true
    · rw [c] at e
      cases e
      rw [beq_iff_eq] at c
      rw [c]
      exact List.mem_cons_self
    · have c : (C == D) = false := by simpa using c
      rw [c] at e
      exact List.mem_cons_of_mem _ (look_mem e)
theorem kAll_ok {l : List (Str × Addr)} {cols : List Cv} {TB : List (Str × List Cv)} (hn : ∀ p ∈ l, nm K p.1 = p.2) (h : kAll K l cols TB = true) (C : Str) (ne : tabH cols TB C ≠ []) : ExcC K (nm K C) ∧ ∀ r ∈ tabH cols TB C, PySem.W.kitOne K (.ref (nm K C)) (r.1.val K) = some r.2 := by
  unfold tabH at ne ⊢
  cases e : TB.lookup C with
  | none =>
    rw [e] at ne
    exact absurd rfl ne
  | some up =>
    have hm := look_mem e
    unfold kAll at h
    have h := List.all_eq_true.mp h _ hm
    dsimp only at h
    split at h
    · next a ea =>
      have ec := look_nm hn ea
      obtain ⟨h1, h2⟩ := Bool.and_eq_true_iff.mp h
      rw [ec]
      refine ⟨excB_ok h1, fun r hr => ?_⟩
      obtain ⟨c, hc, rfl⟩ := List.mem_map.mp hr
      have h2 := List.all_eq_true.mp h2 c hc
      unfold kCv at h2
      split at h2
      · next D =>
        split at h2
        · next d ed =>
          rw [show Cv.val K (.own D) = .ref (nm K D) from rfl, look_nm hn ed]
          exact beq_iff_eq.mp h2
        · cases h2
      · next n => exact beq_iff_eq.mp h2
    · cases h
section
variable {ρ : R}
theorem go_hold0 (C : Str) : eHold0 C ρ = .ok (.val (.err C [])) ρ := nr rfl
end
end
section
variable [TabL] {P : Program} {w : World} {K : PySem.W.Frag} {mg : Str → Option Value} {base : Heap}
/-- okMI for a def with defaults -/
theorem okMID {x qual : Str} {st : Stmt} {f : Addr} {fd : FuncData} {N ps : List Str} {k m : Nat} {b : S} {dvs : List V} {kws : List (Str × V)} (F : FunD K x qual (defArgs st) (defBody st) (defScope st) dvs kws f fd) (S : FnScope N ps (defScope st)) (hm : ps.length = m) (hN : m ≤ N.length)
    (hb : ∀ (cdv : Value) (A : Around) (outer : List Env) (s : Shared) (H : Hp) (E : XK), Room k (A.deeper (envOfC qual (defScope st) s.heap.objs.size f cdv)) →
      ∃ t, PSs (cxOf CX0 P w K mg base N qual (defScope st) f cdv A outer s H E).nox (defBody st) t ∧ MS K EF t b) : FnOk P w K mg base CX0 (k + 1) f fd ps (spI K fun c ts => noX (runI m N.length b c ts)) := by
  refine F.ok S (fun vs H Q E h => ?_) (fun cdv A outer s H vs Q E hr h => ?_)
  · obtain ⟨G, a, c, us, ts, rfl, s, tb, oc, r, w⟩ := h
    rw [List.length_cons, r.len, (runI_w (E1 := E) w).1, hm]
  · obtain ⟨G, a, c, us, ts, rfl, s1, tb, oc, r, w⟩ := h
    obtain ⟨t, h1, h2⟩ := hb cdv A outer s H E hr
    refine ⟨t, h1.nox, ?_⟩
    obtain ⟨e, w⟩ := runI_w (E1 := fun _ _ _ => False) w
    exact body_endI e hN s1 tb oc r h2 w
end
theorem bb_repr : bootBuiltins (Str.ofString "repr") = some (Value.builtin "repr") := by decide +kernel
theorem bb_isi : bootBuiltins (Str.ofString "isinstance") = some (Value.builtin "isinstance") := by decide +kernel
end MX
set_option Elab.async false
set_option linter.all false
set_option maxRecDepth 100000
set_option maxHeartbeats 4000000
namespace K24
open PySem PySem.Spec PyProof.Rows L2 GX MX
def colsH : List Cv := [Cv.own (Str.ofString "InvalidNumber"), Cv.own (Str.ofString "InvalidRatio"), Cv.own (Str.ofString "InvalidShare"), Cv.own (Str.ofString "InvalidName"), Cv.own (Str.ofString "InvalidRows"), Cv.own (Str.ofString "NotRising"), Cv.own (Str.ofString "InvalidLimits"), Cv.own (Str.ofString "InvalidLooks"), Cv.own (Str.ofString "InvalidMarks"), Cv.own (Str.ofString "InvalidState"), Cv.own (Str.ofString "InvalidLines"), Cv.own (Str.ofString "InvalidSize"), Cv.own (Str.ofString "InvalidMarked"), Cv.own (Str.ofString "InvalidSeries"), Cv.own (Str.ofString "InvalidModulus"), Cv.own (Str.ofString "InvalidKeys"), Cv.own (Str.ofString "InvalidLayers"), Cv.own (Str.ofString "InvalidTables"), Cv.own (Str.ofString "InvalidDeeds"), Cv.own (Str.ofString "InvalidText"), Cv.own (Str.ofString "InvalidCommand"), Cv.own (Str.ofString "NotAPlan"), Cv.own (Str.ofString "NotClaims"), Cv.own (Str.ofString "NotFlipped"), Cv.own (Str.ofString "NotATable"), Cv.own (Str.ofString "NotASample"), Cv.own (Str.ofString "UnknownName"), Cv.own (Str.ofString "UnknownRow"), Cv.own (Str.ofString "KnownRow"), Cv.own (Str.ofString "SameRank"), Cv.own (Str.ofString "Contradiction"), Cv.own (Str.ofString "NotHeld"), Cv.own (Str.ofString "Busy"), Cv.own (Str.ofString "NothingToUndo"), Cv.own (Str.ofString "TooFew"), Cv.own (Str.ofString "TooFine"), Cv.own (Str.ofString "InputError"), Cv.own (Str.ofString "StateError"), Cv.own (Str.ofString "LimitError"), Cv.blt "ValueError", Cv.blt "LookupError", Cv.blt "ArithmeticError"]
def TBH : List (Str × List Cv) := [((Str.ofString "InvalidNumber"), [Cv.own (Str.ofString "InvalidNumber"), Cv.own (Str.ofString "InputError"), Cv.blt "ValueError"]), ((Str.ofString "InvalidRatio"), [Cv.own (Str.ofString "InvalidRatio"), Cv.own (Str.ofString "InputError"), Cv.blt "ValueError"]), ((Str.ofString "InvalidShare"), [Cv.own (Str.ofString "InvalidShare"), Cv.own (Str.ofString "InputError"), Cv.blt "ValueError"]), ((Str.ofString "InvalidName"), [Cv.own (Str.ofString "InvalidName"), Cv.own (Str.ofString "InputError"), Cv.blt "ValueError"]), ((Str.ofString "InvalidRows"), [Cv.own (Str.ofString "InvalidRows"), Cv.own (Str.ofString "InputError"), Cv.blt "ValueError"]), ((Str.ofString "NotRising"), [Cv.own (Str.ofString "NotRising"), Cv.own (Str.ofString "InputError"), Cv.blt "ValueError"]), ((Str.ofString "InvalidLimits"), [Cv.own (Str.ofString "InvalidLimits"), Cv.own (Str.ofString "InputError"), Cv.blt "ValueError"]), ((Str.ofString "InvalidLooks"), [Cv.own (Str.ofString "InvalidLooks"), Cv.own (Str.ofString "InputError"), Cv.blt "ValueError"]), ((Str.ofString "InvalidMarks"), [Cv.own (Str.ofString "InvalidMarks"), Cv.own (Str.ofString "InputError"), Cv.blt "ValueError"]), ((Str.ofString "InvalidState"), [Cv.own (Str.ofString "InvalidState"), Cv.own (Str.ofString "InputError"), Cv.blt "ValueError"]), ((Str.ofString "InvalidLines"), [Cv.own (Str.ofString "InvalidLines"), Cv.own (Str.ofString "InputError"), Cv.blt "ValueError"]), ((Str.ofString "InvalidSize"), [Cv.own (Str.ofString "InvalidSize"), Cv.own (Str.ofString "InputError"), Cv.blt "ValueError"]), ((Str.ofString "InvalidMarked"), [Cv.own (Str.ofString "InvalidMarked"), Cv.own (Str.ofString "InputError"), Cv.blt "ValueError"]), ((Str.ofString "InvalidSeries"), [Cv.own (Str.ofString "InvalidSeries"), Cv.own (Str.ofString "InputError"), Cv.blt "ValueError"]), ((Str.ofString "InvalidModulus"), [Cv.own (Str.ofString "InvalidModulus"), Cv.own (Str.ofString "InputError"), Cv.blt "ValueError"]), ((Str.ofString "InvalidKeys"), [Cv.own (Str.ofString "InvalidKeys"), Cv.own (Str.ofString "InputError"), Cv.blt "ValueError"]), ((Str.ofString "InvalidLayers"), [Cv.own (Str.ofString "InvalidLayers"), Cv.own (Str.ofString "InputError"), Cv.blt "ValueError"]), ((Str.ofString "InvalidTables"), [Cv.own (Str.ofString "InvalidTables"), Cv.own (Str.ofString "InputError"), Cv.blt "ValueError"]), ((Str.ofString "InvalidDeeds"), [Cv.own (Str.ofString "InvalidDeeds"), Cv.own (Str.ofString "InputError"), Cv.blt "ValueError"]), ((Str.ofString "InvalidText"), [Cv.own (Str.ofString "InvalidText"), Cv.own (Str.ofString "InputError"), Cv.blt "ValueError"]), ((Str.ofString "InvalidCommand"), [Cv.own (Str.ofString "InvalidCommand"), Cv.own (Str.ofString "InputError"), Cv.blt "ValueError"]), ((Str.ofString "NotAPlan"), [Cv.own (Str.ofString "NotAPlan"), Cv.own (Str.ofString "InputError"), Cv.blt "ValueError"]), ((Str.ofString "NotClaims"), [Cv.own (Str.ofString "NotClaims"), Cv.own (Str.ofString "InputError"), Cv.blt "ValueError"]), ((Str.ofString "NotFlipped"), [Cv.own (Str.ofString "NotFlipped"), Cv.own (Str.ofString "InputError"), Cv.blt "ValueError"]), ((Str.ofString "NotATable"), [Cv.own (Str.ofString "NotATable"), Cv.own (Str.ofString "InputError"), Cv.blt "ValueError"]), ((Str.ofString "NotASample"), [Cv.own (Str.ofString "NotASample"), Cv.own (Str.ofString "InputError"), Cv.blt "ValueError"]), ((Str.ofString "UnknownName"), [Cv.own (Str.ofString "UnknownName"), Cv.own (Str.ofString "StateError"), Cv.blt "LookupError"]), ((Str.ofString "UnknownRow"), [Cv.own (Str.ofString "UnknownRow"), Cv.own (Str.ofString "StateError"), Cv.blt "LookupError"]), ((Str.ofString "KnownRow"), [Cv.own (Str.ofString "KnownRow"), Cv.own (Str.ofString "StateError"), Cv.blt "LookupError"]), ((Str.ofString "SameRank"), [Cv.own (Str.ofString "SameRank"), Cv.own (Str.ofString "StateError"), Cv.blt "LookupError"]), ((Str.ofString "Contradiction"), [Cv.own (Str.ofString "Contradiction"), Cv.own (Str.ofString "StateError"), Cv.blt "LookupError"]), ((Str.ofString "NotHeld"), [Cv.own (Str.ofString "NotHeld"), Cv.own (Str.ofString "StateError"), Cv.blt "LookupError"]), ((Str.ofString "TooFew"), [Cv.own (Str.ofString "TooFew"), Cv.own (Str.ofString "LimitError"), Cv.blt "ArithmeticError"]), ((Str.ofString "TooFine"), [Cv.own (Str.ofString "TooFine"), Cv.own (Str.ofString "LimitError"), Cv.blt "ArithmeticError"]), ((Str.ofString "Busy"), [Cv.own (Str.ofString "Busy"), Cv.own (Str.ofString "StateError"), Cv.blt "LookupError"]), ((Str.ofString "NothingToUndo"), [Cv.own (Str.ofString "NothingToUndo"), Cv.own (Str.ofString "StateError"), Cv.blt "LookupError"])]
end K24
set_option Elab.async false
set_option linter.all false
set_option maxRecDepth 100000
set_option maxHeartbeats 4000000
namespace K24
open PySem PySem.Spec PyProof.Rows L2 GX MX Pg
noncomputable def m_is_integer : MX.S := (sRet (eA (eB bIsi (aC (eV 0) (aC (eC (.ty "int")) aN))) (eN (eB bIsi (aC (eV 0) (aC (eC (.ty "bool")) aN))))))
noncomputable def d_is_integer : List T → FR := fun ts => noX (runD 1 1 m_is_integer ts)
noncomputable def m_Ratio___init__ : MX.S := (sSeq (sIf (tN (tR (eCall d_is_integer (aC (eV 1) aN)))) (fun _ => .bot) sNx)
    (sSeq (sIf (tO (tN (tR (eCall d_is_integer (aC (eV 2) aN)))) (tV (eOp oLt (eV 2) (eC (.int 1))))) (fun _ => .bot) sNx)
    (sSeq (sSet 3 (eB bGcd (aC (eV 1) (aC (eV 2) aN))))
    (sSeq (sFldS [(Str.ofString "Ratio")] 0 (Str.ofString "top") (eOp oDiv (eV 1) (eV 3)))
    (sSeq (sFldS [(Str.ofString "Ratio")] 0 (Str.ofString "bottom") (eOp oDiv (eV 2) (eV 3)))
    (sFldS [(Str.ofString "Ratio")] 0 (Str.ofString "floor") (eOp oDiv (eV 1) (eV 2))))))))
noncomputable def d_Ratio___init__ : OC → List T → FR := fun c ts => noX (runI 3 4 m_Ratio___init__ c ts)
noncomputable def m_Ratio___repr__ : MX.S := (sRet (eJs [(eC (.str (Str.ofString "Ratio("))), (eUn fmtT (eUn (oFld [(Str.ofString "Ratio")] (Str.ofString "top")) (eV 0))), (eC (.str (Str.ofString ", "))), (eUn fmtT (eUn (oFld [(Str.ofString "Ratio")] (Str.ofString "bottom")) (eV 0))), (eC (.str (Str.ofString ")")))] Str.empty))
noncomputable def d_Ratio___repr__ : List T → FR := fun ts => noX (runD 1 1 m_Ratio___repr__ ts)
noncomputable def m_q_purse_b1 : MX.S := (sSet 2 (eOp oMod (eB bInt (aC (eOp oAdd (eOp oMulS (eV 2) (eC (.int 60013))) (eV 3)) aN)) (eC (.int 2147483629))))
noncomputable def m_q_purse : MX.S := (sSeq (sSet 2 (eOp oAdd (eOp oMulS (eC (.int 7)) (eB bLen (aC (eV 0) aN))) (eOp oMulS (eC (.int 11)) (eV 1))))
    (sSeq (sFor (iF seqOf (eSl (eV 0) pN (pS (eC (.int 3))))) (gN 3) m_q_purse_b1)
    (sSeq (sIf (tV (eOp oLt (eV 1) (eB bLen (aC (eV 0) aN)))) (sSet 2 (eOp oIx (eV 0) (eV 1))) sNx)
    (sSeq (sSet 4 (eOp oPow (eB bInt (aC (eOp oAdd (eOp oMod (eB bInt (aC (eV 2) aN)) (eC (.int 2147483629))) (eC (.int 314159))) aN)) (eC (.int 3))))
    (sRet (eL (aC (eOp oMod (eB bInt (aC (eV 4) aN)) (eC (.int 2147483629))) (aC (eIf (tO (tV (eOp oLt (eV 2) (eC (.int 0)))) (tV (eOp oGe (eV 2) (eOp oPow (eC (.int 10)) (eC (.int 18)))))) (eB bAbs (aC (eV 2) aN)) (eC (.int 0))) (aC (eC (.int 0)) aN)))))))))
noncomputable def d_q_purse : List T → FR := fun ts => noX (runD 2 5 m_q_purse ts)
noncomputable def m_q_draw : MX.S := (sSeq (sPutIx 0 (eOp oAdd (eOp oIx (eV 0) (eC (.int 2))) (eC (.int 1))) (eC (.int 2)))
    (sSeq (sSet 2 (eB bInt (aC (eOp oIx (eV 0) (eC (.int 0))) aN)))
    (sSeq (sSet 3 (eOp oAdd (eOp oMod (eB bInt (aC (eV 2) aN)) (eC (.int 40009))) (eC (.int 20011))))
    (sSeq (sPutIx 0 (eOp oMod (eB bInt (aC (eOp oAdd (eOp oAdd (eOp oMul (eV 2) (eV 3)) (eOp oMulS (eC (.int 69997)) (eOp oIx (eV 0) (eC (.int 2))))) (eC (.int 7))) aN)) (eC (.int 2147483629))) (eC (.int 0)))
    (sSeq (sIf (tV (eOp oGt (eOp oIx (eV 0) (eC (.int 1))) (eC (.int 0)))) (sSeq (sPutTup 0 1 4 (eB bDivm (aC (eOp oIx (eV 0) (eC (.int 1))) (aC (eV 1) aN))))
        (sRet (eV 4))) sNx)
    (sRet (eOp oMod (eB bInt (aC (eOp oDivS (eOp oIx (eV 0) (eC (.int 0))) (eC (.int 97))) aN)) (eV 1))))))))
noncomputable def d_q_draw : OC → List T → FR := fun c ts => noX (runI 2 5 m_q_draw c ts)
noncomputable def m_q_first_words_k1 : M Bool := (tR (eV 3))
noncomputable def m_q_first_words_e2 : M Vl := (eV 2)
noncomputable def m_q_first_words : MX.S := (sSeq (sSet 1 (eL (aC (eT (aC (eC (.str (Str.ofString "InvalidNumber"))) (aC (eB (bIsH (tabH colsH TBH)) (aC (eV 0) (aC (eC (.cls (Str.ofString "InvalidNumber"))) aN))) aN))) (aC (eT (aC (eC (.str (Str.ofString "InvalidRatio"))) (aC (eB (bIsH (tabH colsH TBH)) (aC (eV 0) (aC (eC (.cls (Str.ofString "InvalidRatio"))) aN))) aN))) aN))))
    (sSeq (sSet 1 (eOp oCat (eV 1) (eL (aC (eT (aC (eC (.str (Str.ofString "InvalidShare"))) (aC (eB (bIsH (tabH colsH TBH)) (aC (eV 0) (aC (eC (.cls (Str.ofString "InvalidShare"))) aN))) aN))) (aC (eT (aC (eC (.str (Str.ofString "InvalidName"))) (aC (eB (bIsH (tabH colsH TBH)) (aC (eV 0) (aC (eC (.cls (Str.ofString "InvalidName"))) aN))) aN))) aN)))))
    (sSeq (sSet 1 (eOp oCat (eV 1) (eL (aC (eT (aC (eC (.str (Str.ofString "InvalidRows"))) (aC (eB (bIsH (tabH colsH TBH)) (aC (eV 0) (aC (eC (.cls (Str.ofString "InvalidRows"))) aN))) aN))) (aC (eT (aC (eC (.str (Str.ofString "NotRising"))) (aC (eB (bIsH (tabH colsH TBH)) (aC (eV 0) (aC (eC (.cls (Str.ofString "NotRising"))) aN))) aN))) aN)))))
    (sSeq (sSet 1 (eOp oCat (eV 1) (eL (aC (eT (aC (eC (.str (Str.ofString "InvalidLimits"))) (aC (eB (bIsH (tabH colsH TBH)) (aC (eV 0) (aC (eC (.cls (Str.ofString "InvalidLimits"))) aN))) aN))) (aC (eT (aC (eC (.str (Str.ofString "InvalidLooks"))) (aC (eB (bIsH (tabH colsH TBH)) (aC (eV 0) (aC (eC (.cls (Str.ofString "InvalidLooks"))) aN))) aN))) aN)))))
    (sSeq (sSet 1 (eOp oCat (eV 1) (eL (aC (eT (aC (eC (.str (Str.ofString "InvalidMarks"))) (aC (eB (bIsH (tabH colsH TBH)) (aC (eV 0) (aC (eC (.cls (Str.ofString "InvalidMarks"))) aN))) aN))) (aC (eT (aC (eC (.str (Str.ofString "InvalidState"))) (aC (eB (bIsH (tabH colsH TBH)) (aC (eV 0) (aC (eC (.cls (Str.ofString "InvalidState"))) aN))) aN))) aN)))))
    (sSeq (sSet 1 (eOp oCat (eV 1) (eL (aC (eT (aC (eC (.str (Str.ofString "InvalidLines"))) (aC (eB (bIsH (tabH colsH TBH)) (aC (eV 0) (aC (eC (.cls (Str.ofString "InvalidLines"))) aN))) aN))) (aC (eT (aC (eC (.str (Str.ofString "InvalidSize"))) (aC (eB (bIsH (tabH colsH TBH)) (aC (eV 0) (aC (eC (.cls (Str.ofString "InvalidSize"))) aN))) aN))) aN)))))
    (sSeq (sSet 1 (eOp oCat (eV 1) (eL (aC (eT (aC (eC (.str (Str.ofString "InvalidMarked"))) (aC (eB (bIsH (tabH colsH TBH)) (aC (eV 0) (aC (eC (.cls (Str.ofString "InvalidMarked"))) aN))) aN))) (aC (eT (aC (eC (.str (Str.ofString "InvalidSeries"))) (aC (eB (bIsH (tabH colsH TBH)) (aC (eV 0) (aC (eC (.cls (Str.ofString "InvalidSeries"))) aN))) aN))) aN)))))
    (sSeq (sSet 1 (eOp oCat (eV 1) (eL (aC (eT (aC (eC (.str (Str.ofString "InvalidModulus"))) (aC (eB (bIsH (tabH colsH TBH)) (aC (eV 0) (aC (eC (.cls (Str.ofString "InvalidModulus"))) aN))) aN))) (aC (eT (aC (eC (.str (Str.ofString "InvalidKeys"))) (aC (eB (bIsH (tabH colsH TBH)) (aC (eV 0) (aC (eC (.cls (Str.ofString "InvalidKeys"))) aN))) aN))) aN)))))
    (sSeq (sSet 1 (eOp oCat (eV 1) (eL (aC (eT (aC (eC (.str (Str.ofString "InvalidLayers"))) (aC (eB (bIsH (tabH colsH TBH)) (aC (eV 0) (aC (eC (.cls (Str.ofString "InvalidLayers"))) aN))) aN))) (aC (eT (aC (eC (.str (Str.ofString "InvalidTables"))) (aC (eB (bIsH (tabH colsH TBH)) (aC (eV 0) (aC (eC (.cls (Str.ofString "InvalidTables"))) aN))) aN))) aN)))))
    (sRet (eLc (iF seqOf (eV 1)) (gT 2 (gc (gN 2) (gc (gN 3) gn))) m_q_first_words_k1 m_q_first_words_e2 [2, 3])))))))))))
noncomputable def d_q_first_words : List T → FR := fun ts => noX (runD 1 4 m_q_first_words ts)
noncomputable def m_q_words_k1 : M Bool := (tR (eV 3))
noncomputable def m_q_words_e2 : M Vl := (eV 2)
noncomputable def m_q_words : MX.S := (sSeq (sSet 1 (eL (aC (eT (aC (eC (.str (Str.ofString "InvalidDeeds"))) (aC (eB (bIsH (tabH colsH TBH)) (aC (eV 0) (aC (eC (.cls (Str.ofString "InvalidDeeds"))) aN))) aN))) (aC (eT (aC (eC (.str (Str.ofString "InvalidText"))) (aC (eB (bIsH (tabH colsH TBH)) (aC (eV 0) (aC (eC (.cls (Str.ofString "InvalidText"))) aN))) aN))) aN))))
    (sSeq (sSet 1 (eOp oCat (eV 1) (eL (aC (eT (aC (eC (.str (Str.ofString "InvalidCommand"))) (aC (eB (bIsH (tabH colsH TBH)) (aC (eV 0) (aC (eC (.cls (Str.ofString "InvalidCommand"))) aN))) aN))) (aC (eT (aC (eC (.str (Str.ofString "NotAPlan"))) (aC (eB (bIsH (tabH colsH TBH)) (aC (eV 0) (aC (eC (.cls (Str.ofString "NotAPlan"))) aN))) aN))) aN)))))
    (sSeq (sSet 1 (eOp oCat (eV 1) (eL (aC (eT (aC (eC (.str (Str.ofString "NotClaims"))) (aC (eB (bIsH (tabH colsH TBH)) (aC (eV 0) (aC (eC (.cls (Str.ofString "NotClaims"))) aN))) aN))) (aC (eT (aC (eC (.str (Str.ofString "NotFlipped"))) (aC (eB (bIsH (tabH colsH TBH)) (aC (eV 0) (aC (eC (.cls (Str.ofString "NotFlipped"))) aN))) aN))) aN)))))
    (sSeq (sSet 1 (eOp oCat (eV 1) (eL (aC (eT (aC (eC (.str (Str.ofString "NotATable"))) (aC (eB (bIsH (tabH colsH TBH)) (aC (eV 0) (aC (eC (.cls (Str.ofString "NotATable"))) aN))) aN))) (aC (eT (aC (eC (.str (Str.ofString "NotASample"))) (aC (eB (bIsH (tabH colsH TBH)) (aC (eV 0) (aC (eC (.cls (Str.ofString "NotASample"))) aN))) aN))) aN)))))
    (sSeq (sSet 1 (eOp oCat (eV 1) (eL (aC (eT (aC (eC (.str (Str.ofString "UnknownName"))) (aC (eB (bIsH (tabH colsH TBH)) (aC (eV 0) (aC (eC (.cls (Str.ofString "UnknownName"))) aN))) aN))) (aC (eT (aC (eC (.str (Str.ofString "UnknownRow"))) (aC (eB (bIsH (tabH colsH TBH)) (aC (eV 0) (aC (eC (.cls (Str.ofString "UnknownRow"))) aN))) aN))) aN)))))
    (sSeq (sSet 1 (eOp oCat (eV 1) (eL (aC (eT (aC (eC (.str (Str.ofString "KnownRow"))) (aC (eB (bIsH (tabH colsH TBH)) (aC (eV 0) (aC (eC (.cls (Str.ofString "KnownRow"))) aN))) aN))) (aC (eT (aC (eC (.str (Str.ofString "SameRank"))) (aC (eB (bIsH (tabH colsH TBH)) (aC (eV 0) (aC (eC (.cls (Str.ofString "SameRank"))) aN))) aN))) aN)))))
    (sSeq (sSet 1 (eOp oCat (eV 1) (eL (aC (eT (aC (eC (.str (Str.ofString "Contradiction"))) (aC (eB (bIsH (tabH colsH TBH)) (aC (eV 0) (aC (eC (.cls (Str.ofString "Contradiction"))) aN))) aN))) (aC (eT (aC (eC (.str (Str.ofString "NotHeld"))) (aC (eB (bIsH (tabH colsH TBH)) (aC (eV 0) (aC (eC (.cls (Str.ofString "NotHeld"))) aN))) aN))) aN)))))
    (sSeq (sSet 1 (eOp oCat (eV 1) (eL (aC (eT (aC (eC (.str (Str.ofString "Busy"))) (aC (eB (bIsH (tabH colsH TBH)) (aC (eV 0) (aC (eC (.cls (Str.ofString "Busy"))) aN))) aN))) (aC (eT (aC (eC (.str (Str.ofString "NothingToUndo"))) (aC (eB (bIsH (tabH colsH TBH)) (aC (eV 0) (aC (eC (.cls (Str.ofString "NothingToUndo"))) aN))) aN))) aN)))))
    (sSeq (sSet 1 (eOp oCat (eV 1) (eL (aC (eT (aC (eC (.str (Str.ofString "TooFew"))) (aC (eB (bIsH (tabH colsH TBH)) (aC (eV 0) (aC (eC (.cls (Str.ofString "TooFew"))) aN))) aN))) (aC (eT (aC (eC (.str (Str.ofString "TooFine"))) (aC (eB (bIsH (tabH colsH TBH)) (aC (eV 0) (aC (eC (.cls (Str.ofString "TooFine"))) aN))) aN))) aN)))))
    (sSeq (sSet 1 (eOp oCat (eV 1) (eL (aC (eT (aC (eC (.str (Str.ofString "InputError"))) (aC (eB (bIsH (tabH colsH TBH)) (aC (eV 0) (aC (eC (.cls (Str.ofString "InputError"))) aN))) aN))) (aC (eT (aC (eC (.str (Str.ofString "StateError"))) (aC (eB (bIsH (tabH colsH TBH)) (aC (eV 0) (aC (eC (.cls (Str.ofString "StateError"))) aN))) aN))) aN)))))
    (sSeq (sSet 1 (eOp oCat (eV 1) (eL (aC (eT (aC (eC (.str (Str.ofString "LimitError"))) (aC (eB (bIsH (tabH colsH TBH)) (aC (eV 0) (aC (eC (.cls (Str.ofString "LimitError"))) aN))) aN))) (aC (eT (aC (eC (.str (Str.ofString "ValueError"))) (aC (eB (bIsH (tabH colsH TBH)) (aC (eV 0) (aC (eC (.ty "ValueError")) aN))) aN))) aN)))))
    (sSeq (sSet 1 (eOp oCat (eV 1) (eL (aC (eT (aC (eC (.str (Str.ofString "LookupError"))) (aC (eB (bIsH (tabH colsH TBH)) (aC (eV 0) (aC (eC (.ty "LookupError")) aN))) aN))) (aC (eT (aC (eC (.str (Str.ofString "ArithmeticError"))) (aC (eB (bIsH (tabH colsH TBH)) (aC (eV 0) (aC (eC (.ty "ArithmeticError")) aN))) aN))) aN)))))
    (sRet (eOp oCat (eCall d_q_first_words (aC (eV 0) aN)) (eLc (iF seqOf (eV 1)) (gT 2 (gc (gN 2) (gc (gN 3) gn))) m_q_words_k1 m_q_words_e2 [2, 3])))))))))))))))
noncomputable def d_q_words : List T → FR := fun ts => noX (runD 1 4 m_q_words ts)
noncomputable def m_q_numbers : MX.S := (sSeq (sSet 1 (eL (aC (eT (aC (eC (.str (Str.ofString "InvalidNumber"))) (aC (eHold (Str.ofString "InvalidNumber") (Str.ofString "number") (aC (eV 0) aN)) (aC (eFldH (Str.ofString "InvalidNumber") (Str.ofString "number") (eHold (Str.ofString "InvalidNumber") (Str.ofString "number") (aC (eV 0) aN))) (aC (eFldH (Str.ofString "InvalidNumber") (Str.ofString "number") (eHold (Str.ofString "InvalidNumber") (Str.ofString "number") (aC (eV 0) aN))) aN))))) aN)))
    (sSeq (sX (eApp 1 (eT (aC (eC (.str (Str.ofString "InvalidRatio"))) (aC (eHold (Str.ofString "InvalidRatio") (Str.ofString "value") (aC (eV 0) aN)) (aC (eFldH (Str.ofString "InvalidRatio") (Str.ofString "value") (eHold (Str.ofString "InvalidRatio") (Str.ofString "value") (aC (eV 0) aN))) (aC (eFldH (Str.ofString "InvalidRatio") (Str.ofString "value") (eHold (Str.ofString "InvalidRatio") (Str.ofString "value") (aC (eV 0) aN))) aN)))))))
    (sSeq (sX (eApp 1 (eT (aC (eC (.str (Str.ofString "InvalidShare"))) (aC (eHold (Str.ofString "InvalidShare") (Str.ofString "value") (aC (eV 0) aN)) (aC (eFldH (Str.ofString "InvalidShare") (Str.ofString "value") (eHold (Str.ofString "InvalidShare") (Str.ofString "value") (aC (eV 0) aN))) (aC (eFldH (Str.ofString "InvalidShare") (Str.ofString "value") (eHold (Str.ofString "InvalidShare") (Str.ofString "value") (aC (eV 0) aN))) aN)))))))
    (sSeq (sX (eApp 1 (eT (aC (eC (.str (Str.ofString "InvalidName"))) (aC (eHold (Str.ofString "InvalidName") (Str.ofString "name") (aC (eV 0) aN)) (aC (eFldH (Str.ofString "InvalidName") (Str.ofString "name") (eHold (Str.ofString "InvalidName") (Str.ofString "name") (aC (eV 0) aN))) (aC (eFldH (Str.ofString "InvalidName") (Str.ofString "name") (eHold (Str.ofString "InvalidName") (Str.ofString "name") (aC (eV 0) aN))) aN)))))))
    (sSeq (sX (eApp 1 (eT (aC (eC (.str (Str.ofString "InvalidState"))) (aC (eHold (Str.ofString "InvalidState") (Str.ofString "state") (aC (eV 0) aN)) (aC (eFldH (Str.ofString "InvalidState") (Str.ofString "state") (eHold (Str.ofString "InvalidState") (Str.ofString "state") (aC (eV 0) aN))) (aC (eFldH (Str.ofString "InvalidState") (Str.ofString "state") (eHold (Str.ofString "InvalidState") (Str.ofString "state") (aC (eV 0) aN))) aN)))))))
    (sSeq (sX (eApp 1 (eT (aC (eC (.str (Str.ofString "InvalidSize"))) (aC (eHold (Str.ofString "InvalidSize") (Str.ofString "value") (aC (eV 0) aN)) (aC (eFldH (Str.ofString "InvalidSize") (Str.ofString "value") (eHold (Str.ofString "InvalidSize") (Str.ofString "value") (aC (eV 0) aN))) (aC (eFldH (Str.ofString "InvalidSize") (Str.ofString "value") (eHold (Str.ofString "InvalidSize") (Str.ofString "value") (aC (eV 0) aN))) aN)))))))
    (sSeq (sX (eApp 1 (eT (aC (eC (.str (Str.ofString "InvalidMarked"))) (aC (eHold (Str.ofString "InvalidMarked") (Str.ofString "value") (aC (eV 0) aN)) (aC (eFldH (Str.ofString "InvalidMarked") (Str.ofString "value") (eHold (Str.ofString "InvalidMarked") (Str.ofString "value") (aC (eV 0) aN))) (aC (eFldH (Str.ofString "InvalidMarked") (Str.ofString "value") (eHold (Str.ofString "InvalidMarked") (Str.ofString "value") (aC (eV 0) aN))) aN)))))))
    (sSeq (sPar 2 3 (aC (eHold (Str.ofString "InvalidModulus") (Str.ofString "value") (aC (eV 0) aN)) (aC (eHold (Str.ofString "InvalidModulus") (Str.ofString "value") (aC (eV 0) aN)) aN)))
    (sSeq (sX (eApp 1 (eT (aC (eC (.str (Str.ofString "InvalidModulus"))) (aC (eV 2) (aC (eFldH (Str.ofString "InvalidModulus") (Str.ofString "value") (eV 2)) (aC (eFldH (Str.ofString "InvalidModulus") (Str.ofString "value") (eV 3)) aN)))))))
    (sSeq (sX (eApp 1 (eT (aC (eC (.str (Str.ofString "InvalidTables"))) (aC (eHold (Str.ofString "InvalidTables") (Str.ofString "name") (aC (eV 0) aN)) (aC (eFldH (Str.ofString "InvalidTables") (Str.ofString "name") (eHold (Str.ofString "InvalidTables") (Str.ofString "name") (aC (eV 0) aN))) (aC (eFldH (Str.ofString "InvalidTables") (Str.ofString "name") (eHold (Str.ofString "InvalidTables") (Str.ofString "name") (aC (eV 0) aN))) aN)))))))
    (sSeq (sX (eApp 1 (eT (aC (eC (.str (Str.ofString "InvalidText"))) (aC (eHold (Str.ofString "InvalidText") (Str.ofString "text") (aC (eV 0) aN)) (aC (eFldH (Str.ofString "InvalidText") (Str.ofString "text") (eHold (Str.ofString "InvalidText") (Str.ofString "text") (aC (eV 0) aN))) (aC (eFldH (Str.ofString "InvalidText") (Str.ofString "text") (eHold (Str.ofString "InvalidText") (Str.ofString "text") (aC (eV 0) aN))) aN)))))))
    (sSeq (sPar 2 3 (aC (eHold (Str.ofString "InvalidCommand") (Str.ofString "command") (aC (eV 0) aN)) (aC (eHold (Str.ofString "InvalidCommand") (Str.ofString "command") (aC (eV 0) aN)) aN)))
    (sSeq (sX (eApp 1 (eT (aC (eC (.str (Str.ofString "InvalidCommand"))) (aC (eV 2) (aC (eFldH (Str.ofString "InvalidCommand") (Str.ofString "command") (eV 2)) (aC (eFldH (Str.ofString "InvalidCommand") (Str.ofString "command") (eV 3)) aN)))))))
    (sRet (eV 1)))))))))))))))
noncomputable def d_q_numbers : List T → FR := fun ts => noX (runD 1 4 m_q_numbers ts)
noncomputable def m_q_places : MX.S := (sSeq (sSet 1 (eL (aC (eT (aC (eC (.str (Str.ofString "InvalidRows"))) (aC (eHold (Str.ofString "InvalidRows") (Str.ofString "index") (aC (eV 0) aN)) (aC (eFldH (Str.ofString "InvalidRows") (Str.ofString "index") (eHold (Str.ofString "InvalidRows") (Str.ofString "index") (aC (eV 0) aN))) (aC (eFldH (Str.ofString "InvalidRows") (Str.ofString "index") (eHold (Str.ofString "InvalidRows") (Str.ofString "index") (aC (eV 0) aN))) aN))))) aN)))
    (sSeq (sX (eApp 1 (eT (aC (eC (.str (Str.ofString "InvalidLimits"))) (aC (eHold (Str.ofString "InvalidLimits") (Str.ofString "index") (aC (eV 0) aN)) (aC (eFldH (Str.ofString "InvalidLimits") (Str.ofString "index") (eHold (Str.ofString "InvalidLimits") (Str.ofString "index") (aC (eV 0) aN))) (aC (eFldH (Str.ofString "InvalidLimits") (Str.ofString "index") (eHold (Str.ofString "InvalidLimits") (Str.ofString "index") (aC (eV 0) aN))) aN)))))))
    (sSeq (sX (eApp 1 (eT (aC (eC (.str (Str.ofString "InvalidLooks"))) (aC (eHold (Str.ofString "InvalidLooks") (Str.ofString "index") (aC (eV 0) aN)) (aC (eFldH (Str.ofString "InvalidLooks") (Str.ofString "index") (eHold (Str.ofString "InvalidLooks") (Str.ofString "index") (aC (eV 0) aN))) (aC (eFldH (Str.ofString "InvalidLooks") (Str.ofString "index") (eHold (Str.ofString "InvalidLooks") (Str.ofString "index") (aC (eV 0) aN))) aN)))))))
    (sSeq (sX (eApp 1 (eT (aC (eC (.str (Str.ofString "InvalidMarks"))) (aC (eHold (Str.ofString "InvalidMarks") (Str.ofString "index") (aC (eV 0) aN)) (aC (eFldH (Str.ofString "InvalidMarks") (Str.ofString "index") (eHold (Str.ofString "InvalidMarks") (Str.ofString "index") (aC (eV 0) aN))) (aC (eFldH (Str.ofString "InvalidMarks") (Str.ofString "index") (eHold (Str.ofString "InvalidMarks") (Str.ofString "index") (aC (eV 0) aN))) aN)))))))
    (sSeq (sX (eApp 1 (eT (aC (eC (.str (Str.ofString "InvalidLines"))) (aC (eHold (Str.ofString "InvalidLines") (Str.ofString "index") (aC (eV 0) aN)) (aC (eFldH (Str.ofString "InvalidLines") (Str.ofString "index") (eHold (Str.ofString "InvalidLines") (Str.ofString "index") (aC (eV 0) aN))) (aC (eFldH (Str.ofString "InvalidLines") (Str.ofString "index") (eHold (Str.ofString "InvalidLines") (Str.ofString "index") (aC (eV 0) aN))) aN)))))))
    (sSeq (sX (eApp 1 (eT (aC (eC (.str (Str.ofString "InvalidSeries"))) (aC (eHold (Str.ofString "InvalidSeries") (Str.ofString "index") (aC (eV 0) aN)) (aC (eFldH (Str.ofString "InvalidSeries") (Str.ofString "index") (eHold (Str.ofString "InvalidSeries") (Str.ofString "index") (aC (eV 0) aN))) (aC (eFldH (Str.ofString "InvalidSeries") (Str.ofString "index") (eHold (Str.ofString "InvalidSeries") (Str.ofString "index") (aC (eV 0) aN))) aN)))))))
    (sSeq (sX (eApp 1 (eT (aC (eC (.str (Str.ofString "InvalidKeys"))) (aC (eHold (Str.ofString "InvalidKeys") (Str.ofString "index") (aC (eV 0) aN)) (aC (eFldH (Str.ofString "InvalidKeys") (Str.ofString "index") (eHold (Str.ofString "InvalidKeys") (Str.ofString "index") (aC (eV 0) aN))) (aC (eFldH (Str.ofString "InvalidKeys") (Str.ofString "index") (eHold (Str.ofString "InvalidKeys") (Str.ofString "index") (aC (eV 0) aN))) aN)))))))
    (sSeq (sX (eApp 1 (eT (aC (eC (.str (Str.ofString "InvalidLayers"))) (aC (eHold (Str.ofString "InvalidLayers") (Str.ofString "index") (aC (eV 0) aN)) (aC (eFldH (Str.ofString "InvalidLayers") (Str.ofString "index") (eHold (Str.ofString "InvalidLayers") (Str.ofString "index") (aC (eV 0) aN))) (aC (eFldH (Str.ofString "InvalidLayers") (Str.ofString "index") (eHold (Str.ofString "InvalidLayers") (Str.ofString "index") (aC (eV 0) aN))) aN)))))))
    (sSeq (sX (eApp 1 (eT (aC (eC (.str (Str.ofString "InvalidDeeds"))) (aC (eHold (Str.ofString "InvalidDeeds") (Str.ofString "index") (aC (eV 0) aN)) (aC (eFldH (Str.ofString "InvalidDeeds") (Str.ofString "index") (eHold (Str.ofString "InvalidDeeds") (Str.ofString "index") (aC (eV 0) aN))) (aC (eFldH (Str.ofString "InvalidDeeds") (Str.ofString "index") (eHold (Str.ofString "InvalidDeeds") (Str.ofString "index") (aC (eV 0) aN))) aN)))))))
    (sRet (eV 1)))))))))))
noncomputable def d_q_places : List T → FR := fun ts => noX (runD 1 2 m_q_places ts)
noncomputable def m_q_others : MX.S := (sSeq (sSet 1 (eL (aC (eT (aC (eC (.str (Str.ofString "NotAPlan"))) (aC (eHold (Str.ofString "NotAPlan") (Str.ofString "value") (aC (eV 0) aN)) (aC (eFldH (Str.ofString "NotAPlan") (Str.ofString "value") (eHold (Str.ofString "NotAPlan") (Str.ofString "value") (aC (eV 0) aN))) (aC (eFldH (Str.ofString "NotAPlan") (Str.ofString "value") (eHold (Str.ofString "NotAPlan") (Str.ofString "value") (aC (eV 0) aN))) aN))))) aN)))
    (sSeq (sX (eApp 1 (eT (aC (eC (.str (Str.ofString "NotClaims"))) (aC (eHold (Str.ofString "NotClaims") (Str.ofString "value") (aC (eV 0) aN)) (aC (eFldH (Str.ofString "NotClaims") (Str.ofString "value") (eHold (Str.ofString "NotClaims") (Str.ofString "value") (aC (eV 0) aN))) (aC (eFldH (Str.ofString "NotClaims") (Str.ofString "value") (eHold (Str.ofString "NotClaims") (Str.ofString "value") (aC (eV 0) aN))) aN)))))))
    (sSeq (sX (eApp 1 (eT (aC (eC (.str (Str.ofString "NotFlipped"))) (aC (eHold (Str.ofString "NotFlipped") (Str.ofString "found") (aC (eV 0) aN)) (aC (eFldH (Str.ofString "NotFlipped") (Str.ofString "found") (eHold (Str.ofString "NotFlipped") (Str.ofString "found") (aC (eV 0) aN))) (aC (eFldH (Str.ofString "NotFlipped") (Str.ofString "found") (eHold (Str.ofString "NotFlipped") (Str.ofString "found") (aC (eV 0) aN))) aN)))))))
    (sSeq (sX (eApp 1 (eT (aC (eC (.str (Str.ofString "NotATable"))) (aC (eHold (Str.ofString "NotATable") (Str.ofString "value") (aC (eV 0) aN)) (aC (eFldH (Str.ofString "NotATable") (Str.ofString "value") (eHold (Str.ofString "NotATable") (Str.ofString "value") (aC (eV 0) aN))) (aC (eFldH (Str.ofString "NotATable") (Str.ofString "value") (eHold (Str.ofString "NotATable") (Str.ofString "value") (aC (eV 0) aN))) aN)))))))
    (sSeq (sX (eApp 1 (eT (aC (eC (.str (Str.ofString "NotASample"))) (aC (eHold (Str.ofString "NotASample") (Str.ofString "value") (aC (eV 0) aN)) (aC (eFldH (Str.ofString "NotASample") (Str.ofString "value") (eHold (Str.ofString "NotASample") (Str.ofString "value") (aC (eV 0) aN))) (aC (eFldH (Str.ofString "NotASample") (Str.ofString "value") (eHold (Str.ofString "NotASample") (Str.ofString "value") (aC (eV 0) aN))) aN)))))))
    (sSeq (sPar 2 3 (aC (eHold2 (Str.ofString "NotRising") (Str.ofString "marks") (Str.ofString "place") (aC (eV 0) (aC (eL (aC (eV 0) aN)) aN))) (aC (eHold2K (Str.ofString "NotRising") (Str.ofString "marks") (Str.ofString "place") (aC (eV 0) (aC (eT (aC (eV 0) (aC (eC (.int 1)) aN))) aN))) aN)))
    (sSeq (sSet 1 (eOp oCat (eV 1) (eL (aC (eT (aC (eC (.str (Str.ofString "NotRising"))) (aC (eV 2) (aC (eFldH (Str.ofString "NotRising") (Str.ofString "marks") (eV 2)) (aC (eFldH (Str.ofString "NotRising") (Str.ofString "place") (eV 3)) aN))))) (aC (eT (aC (eC (.str (Str.ofString "NotRising"))) (aC (eV 3) (aC (eOp oIx (eFldH (Str.ofString "NotRising") (Str.ofString "place") (eV 2)) (eC (.int 0))) (aC (eOp oIx (eFldH (Str.ofString "NotRising") (Str.ofString "marks") (eV 3)) (eC (.int 0))) aN))))) aN)))))
    (sRet (eV 1)))))))))
noncomputable def d_q_others : List T → FR := fun ts => noX (runD 1 4 m_q_others ts)
noncomputable def m_q_states : MX.S := (sSeq (sSet 1 (eL (aC (eT (aC (eC (.str (Str.ofString "UnknownName"))) (aC (eHold (Str.ofString "UnknownName") (Str.ofString "name") (aC (eV 0) aN)) (aC (eFldH (Str.ofString "UnknownName") (Str.ofString "name") (eHold (Str.ofString "UnknownName") (Str.ofString "name") (aC (eV 0) aN))) (aC (eFldH (Str.ofString "UnknownName") (Str.ofString "name") (eHold (Str.ofString "UnknownName") (Str.ofString "name") (aC (eV 0) aN))) aN))))) aN)))
    (sSeq (sX (eApp 1 (eT (aC (eC (.str (Str.ofString "UnknownRow"))) (aC (eHold (Str.ofString "UnknownRow") (Str.ofString "key") (aC (eV 0) aN)) (aC (eFldH (Str.ofString "UnknownRow") (Str.ofString "key") (eHold (Str.ofString "UnknownRow") (Str.ofString "key") (aC (eV 0) aN))) (aC (eFldH (Str.ofString "UnknownRow") (Str.ofString "key") (eHold (Str.ofString "UnknownRow") (Str.ofString "key") (aC (eV 0) aN))) aN)))))))
    (sSeq (sX (eApp 1 (eT (aC (eC (.str (Str.ofString "KnownRow"))) (aC (eHold (Str.ofString "KnownRow") (Str.ofString "key") (aC (eV 0) aN)) (aC (eFldH (Str.ofString "KnownRow") (Str.ofString "key") (eHold (Str.ofString "KnownRow") (Str.ofString "key") (aC (eV 0) aN))) (aC (eFldH (Str.ofString "KnownRow") (Str.ofString "key") (eHold (Str.ofString "KnownRow") (Str.ofString "key") (aC (eV 0) aN))) aN)))))))
    (sSeq (sX (eApp 1 (eT (aC (eC (.str (Str.ofString "SameRank"))) (aC (eHold (Str.ofString "SameRank") (Str.ofString "rank") (aC (eV 0) aN)) (aC (eFldH (Str.ofString "SameRank") (Str.ofString "rank") (eHold (Str.ofString "SameRank") (Str.ofString "rank") (aC (eV 0) aN))) (aC (eFldH (Str.ofString "SameRank") (Str.ofString "rank") (eHold (Str.ofString "SameRank") (Str.ofString "rank") (aC (eV 0) aN))) aN)))))))
    (sSeq (sX (eApp 1 (eT (aC (eC (.str (Str.ofString "Contradiction"))) (aC (eHold (Str.ofString "Contradiction") (Str.ofString "key") (aC (eV 0) aN)) (aC (eFldH (Str.ofString "Contradiction") (Str.ofString "key") (eHold (Str.ofString "Contradiction") (Str.ofString "key") (aC (eV 0) aN))) (aC (eFldH (Str.ofString "Contradiction") (Str.ofString "key") (eHold (Str.ofString "Contradiction") (Str.ofString "key") (aC (eV 0) aN))) aN)))))))
    (sSeq (sX (eApp 1 (eT (aC (eC (.str (Str.ofString "NotHeld"))) (aC (eHold (Str.ofString "NotHeld") (Str.ofString "found") (aC (eV 0) aN)) (aC (eFldH (Str.ofString "NotHeld") (Str.ofString "found") (eHold (Str.ofString "NotHeld") (Str.ofString "found") (aC (eV 0) aN))) (aC (eFldH (Str.ofString "NotHeld") (Str.ofString "found") (eHold (Str.ofString "NotHeld") (Str.ofString "found") (aC (eV 0) aN))) aN)))))))
    (sSeq (sX (eApp 1 (eT (aC (eC (.str (Str.ofString "Busy"))) (aC (eHold0 (Str.ofString "Busy")) (aC (eV 0) (aC (eV 0) aN)))))))
    (sSeq (sX (eApp 1 (eT (aC (eC (.str (Str.ofString "NothingToUndo"))) (aC (eHold0 (Str.ofString "NothingToUndo")) (aC (eV 0) (aC (eV 0) aN)))))))
    (sRet (eV 1))))))))))
noncomputable def d_q_states : List T → FR := fun ts => noX (runD 1 2 m_q_states ts)
noncomputable def m_q_limits : MX.S := (sSeq (sSet 1 (eL (aC (eT (aC (eC (.str (Str.ofString "TooFew"))) (aC (eHold (Str.ofString "TooFew") (Str.ofString "looked") (aC (eV 0) aN)) (aC (eFldH (Str.ofString "TooFew") (Str.ofString "looked") (eHold (Str.ofString "TooFew") (Str.ofString "looked") (aC (eV 0) aN))) (aC (eFldH (Str.ofString "TooFew") (Str.ofString "looked") (eHold (Str.ofString "TooFew") (Str.ofString "looked") (aC (eV 0) aN))) aN))))) aN)))
    (sSeq (sX (eApp 1 (eT (aC (eC (.str (Str.ofString "TooFine"))) (aC (eHold (Str.ofString "TooFine") (Str.ofString "found") (aC (eV 0) aN)) (aC (eFldH (Str.ofString "TooFine") (Str.ofString "found") (eHold (Str.ofString "TooFine") (Str.ofString "found") (aC (eV 0) aN))) (aC (eFldH (Str.ofString "TooFine") (Str.ofString "found") (eHold (Str.ofString "TooFine") (Str.ofString "found") (aC (eV 0) aN))) aN)))))))
    (sRet (eV 1))))
noncomputable def d_q_limits : List T → FR := fun ts => noX (runD 1 2 m_q_limits ts)
noncomputable def m_q_all_right_b1 : MX.S := (sIf (tO (tV (eOp oNeD (eCall d_q_words (aC (eV 4) aN)) (eOp oCat (eL (aC (eV 3) aN)) (eV 1)))) (tV (eOp oNeD (eL (aC (eReprO (Str.ofString "Ratio") d_Ratio___repr__ (eV 5)) (aC (eReprO (Str.ofString "Ratio") d_Ratio___repr__ (eV 6)) aN))) (eOp oRep (eL (aC (eReprO (Str.ofString "Ratio") d_Ratio___repr__ (eV 2)) aN)) (eC (.int 2)))))) (sRet (eC (.bl false))) sNx)
noncomputable def m_q_all_right : MX.S := (sSeq (sFor (iF seqOf (eV 0)) (gT 4 (gc (gN 3) (gc (gN 4) (gc (gN 5) (gc (gN 6) gn))))) m_q_all_right_b1)
    (sRet (eC (.bl true))))
noncomputable def d_q_all_right : List T → FR := fun ts => noX (runD 3 7 m_q_all_right ts)
noncomputable def m_q_right : MX.S := (sSeq (sPar 1 2 (aC (eCallI d_q_draw (aC (eV 0) (aC (eC (.int 12)) aN))) (aC (eOp oSub (eCallI d_q_draw (aC (eV 0) (aC (eOp oPow (eC (.int 10)) (eC (.int 30))) aN))) (eOp oPow (eC (.int 10)) (eC (.int 29)))) aN)))
    (sSeq (sSet 3 (eL (aC (eC .non) (aC (eC (.bl true)) (aC (eC (.bl false)) (aC (eC (.str (Str.ofString ""))) (aC (eC (.str (Str.ofString "text"))) (aC (eT (aC (eC (.int 1)) (aC (eT (aC (eC (.int 2)) aN)) aN))) (aC (eL (aC (eC (.int 1)) (aC (eL (aC (eC (.int 2)) aN)) aN))) (aC (eDcK1 (.inr (Str.ofString "a")) (.int 1)) (aC (eMake (Str.ofString "Ratio") (fun c ts => d_Ratio___init__ c (ts ++ [])) (aC (eC (.int 1)) (aC (eC (.int 3)) aN))) (aC (eC (.int 0)) (aC (eV 2) (aC (eT aN) aN))))))))))))))
    (sSeq (sSet 4 (eOp oIx (eV 3) (eV 1)))
    (sSeq (sSet 5 (eOp oCat (eOp oCat (eCall d_q_numbers (aC (eV 4) aN)) (eCall d_q_places (aC (eV 4) aN))) (eCall d_q_others (aC (eV 4) aN))))
    (sSeq (sIf (tN (tR (eCall d_q_all_right (aC (eV 5) (aC (eL (aC (eC (.str (Str.ofString "InputError"))) (aC (eC (.str (Str.ofString "ValueError"))) aN))) (aC (eV 4) aN)))))) (sRet (eC (.bl false))) sNx)
    (sSeq (sIf (tN (tR (eCall d_q_all_right (aC (eCall d_q_states (aC (eV 4) aN)) (aC (eL (aC (eC (.str (Str.ofString "StateError"))) (aC (eC (.str (Str.ofString "LookupError"))) aN))) (aC (eV 4) aN)))))) (sRet (eC (.bl false))) sNx)
    (sRet (eCall d_q_all_right (aC (eCall d_q_limits (aC (eV 4) aN)) (aC (eL (aC (eC (.str (Str.ofString "LimitError"))) (aC (eC (.str (Str.ofString "ArithmeticError"))) aN))) (aC (eV 4) aN)))))))))))
noncomputable def d_q_right : OC → List T → FR := fun c ts => noX (runI 1 6 m_q_right c ts)
noncomputable def m_law_b1 : MX.S := (sIf (tN (tR (eCallIO d_q_right (eCall d_q_purse (aC (eV 0) (aC (eV 2) aN)))))) (sRet (eC (.bl false))) sNx)
noncomputable def m_law : MX.S := (sSeq (sSet 1 (eL (aC (eC (.int 20)) (aC (eC (.int 8)) (aC (eC (.int 24)) (aC (eC (.int 1000)) (aC (eC (.int 1000000000000000000000000000000)) (aC (eC (.int 1000000000000000000000000000000000000000000000000000000000000000000000000000000000000000000000000000000000000000000000000000000000000000000000000000000)) (aC (eC (.int 5040)) aN)))))))))
    (sSeq (sIf (tV (eOp oNe (eReprO (Str.ofString "Ratio") d_Ratio___repr__ (eV 1)) (eReprO (Str.ofString "Ratio") d_Ratio___repr__ (eL (aC (eC (.int 20)) (aC (eC (.int 8)) (aC (eC (.int 24)) (aC (eC (.int 1000)) (aC (eOp oPow (eC (.int 10)) (eC (.int 30))) (aC (eOp oMul (eOp oMul (eOp oPow (eC (.int 10)) (eC (.int 50))) (eOp oPow (eC (.int 10)) (eC (.int 50)))) (eOp oPow (eC (.int 10)) (eC (.int 50)))) (aC (eC (.int 5040)) aN))))))))))) (sRet (eC (.bl false))) sNx)
    (sSeq (sFor (iA rg1 (aC (eB bMax (aC (eC (.int 2)) (aC (eB bMin (aC (eB bLen (aC (eV 0) aN)) (aC (eC (.int 8)) aN))) aN))) aN)) (gN 2) m_law_b1)
    (sRet (eC (.bl true))))))
noncomputable def d_law : List T → FR := fun ts => noX (runD 1 3 m_law ts)
end K24
set_option Elab.async false
set_option linter.all false
set_option maxRecDepth 100000
set_option maxHeartbeats 4000000
namespace MX
open PySem PySem.Spec PyProof.Rows L2 GX
section
variable {ρ : R}
def kHo2 (C f : Str) : Option (List T × R) → Res Vl
  | some ([t], ρ2) => .ok (.val (.err C [(f, t)])) ρ2
  | _ => .bot
def kHo (C f : Str) (r : Res (List Vl)) : Res Vl := bindR r fun xs ρ1 => kHo2 C f (fixA ρ1 xs)
theorem go_ho (C f : Str) (as : M (List Vl)) : eHold C f as ρ = kHo C f (as ρ) := by
  unfold eHold kHo
  congr 1
theorem kHo_ok {C f : Str} {xs : List Vl} : kHo C f (.ok xs ρ) = kHo2 C f (fixA ρ xs) := rfl
theorem kHo2_ok {C f : Str} {t : T} : kHo2 C f (some ([t], ρ)) = .ok (.val (.err C [(f, t)])) ρ := rfl
def kHd2 (C f g : Str) : Option (List T × R) → Res Vl
  | some ([t, u], ρ2) => .ok (.val (.err C [(g, u), (f, t)])) ρ2
  | _ => .bot
def kHd (C f g : Str) (r : Res (List Vl)) : Res Vl := bindR r fun xs ρ1 => kHd2 C f g (fixA ρ1 xs)
theorem go_hd (C f g : Str) (as : M (List Vl)) : eHold2 C f g as ρ = kHd C f g (as ρ) := by
  unfold eHold2 kHd
  congr 1
theorem kHd_ok {C f g : Str} {xs : List Vl} : kHd C f g (.ok xs ρ) = kHd2 C f g (fixA ρ xs) := rfl
theorem kHd2_ok {C f g : Str} {t u : T} : kHd2 C f g (some ([t, u], ρ)) = .ok (.val (.err C [(g, u), (f, t)])) ρ := rfl
def kHe2 (C f g : Str) : Option (List T × R) → Res Vl
  | some ([u, t], ρ2) => .ok (.val (.err C [(g, u), (f, t)])) ρ2
  | _ => .bot
def kHe (C f g : Str) (r : Res (List Vl)) : Res Vl := bindR r fun xs ρ1 => kHe2 C f g (fixA ρ1 xs)
theorem go_he (C f g : Str) (as : M (List Vl)) : eHold2K C f g as ρ = kHe C f g (as ρ) := by
  unfold eHold2K kHe
  congr 1
theorem kHe_ok {C f g : Str} {xs : List Vl} : kHe C f g (.ok xs ρ) = kHe2 C f g (fixA ρ xs) := rfl
theorem kHe2_ok {C f g : Str} {t u : T} : kHe2 C f g (some ([u, t], ρ)) = .ok (.val (.err C [(g, u), (f, t)])) ρ := rfl
def kFh3 (o : Option T) (ρ : R) : Res Vl := match o with
  | some t => .ok (.val t) ρ
  | none => .bot
def kFh2 (C f : Str) (ρ : R) : Option T → Res Vl
  | some (.err C' gs) => if C' = C then kFh3 (gs.lookup f) ρ else .bot
  | _ => .bot
def kFh (C f : Str) (r : Res Vl) : Res Vl := bindR r fun x ρ1 => kFh2 C f ρ1 (rdV ρ1 x)
theorem go_fh (C f : Str) (g : M Vl) : eFldH C f g ρ = kFh C f (g ρ) := by
  unfold eFldH kFh
  congr 1
theorem kFh_ok {C f : Str} {x : Vl} : kFh C f (.ok x ρ) = kFh2 C f ρ (rdV ρ x) := rfl
theorem kFh2_ok {C f : Str} {gs : List (Str × T)} : kFh2 C f ρ (some (.err C gs)) = kFh3 (gs.lookup f) ρ := by
  show (if C = C then _ else _) = _
  rw [if_pos rfl]
theorem kFh3_ok {t : T} : kFh3 (some t) ρ = .ok (.val t) ρ := rfl
theorem lk1 {f : Str} {t : T} {r : List (Str × T)} : ((f, t) :: r).lookup f = some t := by
  rw [List.lookup_cons, beq_self_eq_true]
theorem isH_own {tab : Str → List (Cv × Bool)} {C D : Str} {gs : List (Str × T)} {b : Bool} (h : tabAt (.own D) (tab C) = some b) : bIsH tab [.err C gs, .cls D] = some (.val (.bl b)) := by
  show (match cvOf (.cls D) with
    | some c => (tabAt c (tab C)).map fun b => Vl.val (.bl b)
    | none => none) = _
  show (tabAt (.own D) (tab C)).map _ = _
  rw [h]
  rfl
theorem isH_blt {tab : Str → List (Cv × Bool)} {C : Str} {n : String} {gs : List (Str × T)} {b : Bool} (h : tabAt (.blt n) (tab C) = some b) : bIsH tab [.err C gs, .ty n] = some (.val (.bl b)) := by
  show (tabAt (.blt n) (tab C)).map _ = _
  rw [h]
  rfl
end
end MX
set_option Elab.async false
set_option linter.all false
set_option maxRecDepth 100000
set_option maxHeartbeats 4000000
namespace MX
open PySem PySem.Spec PyProof.Rows L2 GX
structure Cd (dp bk : Nat) (d : PyData) : Prop where
  sh : d.showable = true
  lv : d.leavesShort 2000 = true
  de : d.depth ≤ dp
  bu : d.bulk ≤ bk
theorem Cd.int {i : Int} (h : i.natAbs.log2 < 1920) : Cd 0 0 (.int i) := by
  have e := int_text_length_le (k := 1920) (by decide) h
  have e3 : (PyData.shown (.int i)).length = (toString i).length := PySem.ofString_length _
  refine ⟨by simpa [PyData.showable] using h, ?_, by simp [PyData.depth], by simp [PyData.bulk]⟩
  unfold PyData.leavesShort
  exact decide_eq_true (by omega)
theorem Cd.bool (b : Bool) : Cd 0 0 (.bool b) := ⟨by simp [PyData.showable], by simp [PyData.leavesShort], by simp [PyData.depth], by simp [PyData.bulk]⟩
theorem Cd.none : Cd 0 0 .none := ⟨by simp [PyData.showable], by simp [PyData.leavesShort], by simp [PyData.depth], by simp [PyData.bulk]⟩
theorem Cd.mono {a b a' b' : Nat} {d : PyData} (h : Cd a b d) (h1 : a ≤ a') (h2 : b ≤ b') : Cd a' b' d := ⟨h.sh, h.lv, Nat.le_trans h.de h1, Nat.le_trans h.bu h2⟩
theorem cd_all {dp bk : Nat} : ∀ {ds : List PyData}, (∀ d ∈ ds, Cd dp bk d) → PyData.showableAll ds = true ∧ PyData.leavesShortAll 2000 ds = true ∧ PyData.depthAll ds ≤ dp ∧ PyData.bulkAll ds ≤ ds.length * (bk + 1)
  | [], _ => ⟨by simp [PyData.showableAll], by simp [PyData.leavesShortAll], by simp [PyData.depthAll], by simp [PyData.bulkAll]⟩
  | d :: ds, h => by
    obtain ⟨h1, h2, h3, h4⟩ := cd_all (ds := ds) fun x hx => h x (List.mem_cons_of_mem _ hx)
    have c := h d List.mem_cons_self
    have c3 := c.de
    have c4 := c.bu
    refine ⟨by simp [PyData.showableAll, c.sh, h1], by simp [PyData.leavesShortAll, c.lv, h2], ?_, ?_⟩
    · simp only [PyData.depthAll]
      omega
    · simp only [PyData.bulkAll, List.length_cons, Nat.succ_mul]
      omega
theorem Cd.tup {dp bk : Nat} {ds : List PyData} (h : ∀ d ∈ ds, Cd dp bk d) : Cd (dp + 1) (ds.length * (bk + 1)) (.tuple ds) := by
  obtain ⟨h1, h2, h3, h4⟩ := cd_all h
  exact ⟨by simpa [PyData.showable] using h1, by simpa [PyData.leavesShort] using h2, by simp only [PyData.depth]; omega, by simpa [PyData.bulk] using h4⟩
theorem Cd.lst {dp bk : Nat} {ds : List PyData} (h : ∀ d ∈ ds, Cd dp bk d) : Cd (dp + 1) (ds.length * (bk + 1)) (.list ds) := by
  obtain ⟨h1, h2, h3, h4⟩ := cd_all h
  exact ⟨by simpa [PyData.showable] using h1, by simpa [PyData.leavesShort] using h2, by simp only [PyData.depth]; omega, by simpa [PyData.bulk] using h4⟩
theorem toDs_map {α : Type} {f : α → T} {g : α → PyData} : ∀ {l : List α}, (∀ x ∈ l, toD (f x) = some (g x)) → toDs (l.map f) = some (l.map g)
  | [], _ => by simp [toDs]
  | x :: xs, h => by
    have h1 := h x List.mem_cons_self
    have h2 := toDs_map (l := xs) fun y hy => h y (List.mem_cons_of_mem _ hy)
    simp [toDs, h1, h2]
end MX
set_option Elab.async false
set_option linter.all false
set_option maxRecDepth 100000
set_option maxHeartbeats 4000000
namespace MX
open PySem PySem.Spec PyProof.Rows L2 GX
def Sml (x : Str) : Prop := ∀ c ∈ x.cps.toList, c < 0x110000
theorem chr_lt (ch : Char) : ch.toNat < 0x110000 := by
  rcases ch.valid with h | h
  · have : ch.toNat < 0xd800 := h
    omega
  · exact h.2
theorem sml_of (s : String) : Sml (Str.ofString s) := fun c hc => by
  rw [Str.ofString_eq_toList] at hc
  simp only [List.mem_map] at hc
  obtain ⟨ch, _, rfl⟩ := hc
  exact chr_lt ch
theorem sml_app {x y : Str} (hx : Sml x) (hy : Sml y) : Sml (x ++ y) := fun c hc => by
  have e : (x ++ y).cps.toList = x.cps.toList ++ y.cps.toList := by
    show (x.cps ++ y.cps).toList = _
    rw [Array.toList_append]
  rw [e] at hc
  rcases List.mem_append.mp hc with h | h
  · exact hx c h
  · exact hy c h
theorem strOk_of {x : Str} (h : Sml x) : PyData.strOk x = true := by
  unfold PyData.strOk
  rw [Array.all_eq_true']
  intro c hc
  exact decide_eq_true (h c (by simpa using hc))
end MX
set_option Elab.async false
set_option linter.all false
set_option maxRecDepth 100000
set_option maxHeartbeats 4000000
set_option exponentiation.threshold 2000
namespace MX
open PySem PySem.Spec PyProof.Rows L2 GX
/-- laid data of depth at most dp -/
structure Sd (dp : Nat) (d : PyData) : Prop where
  lay : d.canLay0 = true
  de : d.depth ≤ dp
theorem sd_str {i : Str} (h : Sml i) : Sd 0 (.str i) := ⟨by simpa [PyData.canLay0] using strOk_of h, by simp [PyData.depth]⟩
theorem Sd.mono {a b : Nat} {d : PyData} (h : Sd a d) (l : a ≤ b) : Sd b d := ⟨h.lay, Nat.le_trans h.de l⟩
theorem sd_all {dp : Nat} : ∀ {ds : List PyData}, (∀ d ∈ ds, Sd dp d) → PyData.canLayAll0 ds = true ∧ PyData.depthAll ds ≤ dp
  | [], _ => ⟨by simp [PyData.canLayAll0], by simp [PyData.depthAll]⟩
  | d :: ds, h => by
    obtain ⟨h1, h2⟩ := sd_all (ds := ds) fun x hx => h x (List.mem_cons_of_mem _ hx)
    have c := h d List.mem_cons_self
    have c2 := c.de
    refine ⟨by simp [PyData.canLayAll0, c.lay, h1], ?_⟩
    simp only [PyData.depthAll]
    omega
theorem sd_lst {dp : Nat} {ds : List PyData} (h : ∀ d ∈ ds, Sd dp d) : Sd (dp + 1) (.list ds) := by
  obtain ⟨h1, h2⟩ := sd_all h
  exact ⟨by simpa [PyData.canLay0] using h1, by simp only [PyData.depth]; omega⟩
theorem Sd.shaped {dp : Nat} {d : PyData} (h : Sd dp d) (l : dp ≤ 64) : SeqAt.shaped d = true := by
  show (d.canLay0 && decide (d.depth ≤ 64)) = true
  rw [Bool.and_eq_true]
  exact ⟨h.lay, decide_eq_true (Nat.le_trans h.de l)⟩
theorem oNeD_ok {t u : T} {d e : PyData} {a b : Nat} (h1 : toD t = some d) (h2 : toD u = some e) (s1 : Sd a d) (s2 : Sd b e) (l1 : a ≤ 64 := by decide) (l2 : b ≤ 64 := by decide) : oNeD t u = some (.val (.bl (!PyData.eqv d e))) := by
  unfold oNeD
  rw [h1, h2]
  exact if_pos ⟨s1.shaped l1, s2.shaped l2⟩
theorem log2_small {n k : Nat} (h : n < 2 ^ k) (k0 : 0 < k) : n.log2 < k := by
  by_cases z : n = 0
  · subst z
    simpa using k0
  · exact (Nat.log2_lt z).mpr h
theorem cd_int {i : Int} (h : i.natAbs < 2 ^ 1000) : Cd 0 0 (.int i) := Cd.int (Nat.lt_of_lt_of_le (log2_small h (by decide)) (by decide))
def EqD {α : Type} [DecidableEq α] (f : α → PyData) : Prop := ∀ a b, PyData.eqv (f a) (f b) = decide (a = b)
theorem eqd_str : EqD PyData.str := fun a b => by
  simp only [PyData.eqv]
  by_cases h : a = b <;> simp [h]
theorem eqv_all {α : Type} [DecidableEq α] {f : α → PyData} (h : EqD f) : ∀ a b : List α, PyData.eqvAll (a.map f) (b.map f) = decide (a = b)
  | [], [] => by simp [PyData.eqvAll]
  | [], y :: b => by simp [PyData.eqvAll]
  | x :: a, [] => by simp [PyData.eqvAll]
  | x :: a, y :: b => by
    have := eqv_all h a b
    simp only [List.map_cons, PyData.eqvAll, h x y, this]
    by_cases h1 : x = y <;> by_cases h2 : a = b <;> simp [h1, h2]
theorem eqd_list {α : Type} [DecidableEq α] {f : α → PyData} (h : EqD f) : EqD fun l : List α => .list (l.map f) := fun a b => by
  simp only [PyData.eqv]
  exact eqv_all h a b
end MX
set_option Elab.async false
set_option linter.all false
set_option maxRecDepth 100000
set_option maxHeartbeats 4000000
namespace MX
open PySem PySem.Spec PyProof.Rows L2 GX
section
variable {ρ : R}
def kEv (l : M (Option Int)) (r : Res Vl) : Res Vl := bindR r fun x ρ1 => bindR (l ρ1) fun lo ρ2 => match rdV ρ2 (stl x) with
  | some (.tup ts) => .ok (.val (.tup (OAx.ev2 (ts.drop (HT.sIx ts.length 0 lo))))) ρ2
  | _ => .bot
def kEv2 (x : Vl) (r : Res (Option Int)) : Res Vl := bindR r fun lo ρ2 => match rdV ρ2 (stl x) with
  | some (.tup ts) => .ok (.val (.tup (OAx.ev2 (ts.drop (HT.sIx ts.length 0 lo))))) ρ2
  | _ => .bot
def kEv3 (lo : Option Int) (ρ2 : R) (o : Option T) : Res Vl := match o with
  | some (.tup ts) => .ok (.val (.tup (OAx.ev2 (ts.drop (HT.sIx ts.length 0 lo))))) ρ2
  | _ => .bot
theorem go_ev2 (f : M Vl) (l : M (Option Int)) : eEv2 f l ρ = kEv l (f ρ) := nr rfl
theorem kEv_ok (l : M (Option Int)) (x : Vl) : kEv l (.ok x ρ) = kEv2 x (l ρ) := nr rfl
theorem kEv2_ok (x : Vl) (lo : Option Int) : kEv2 x (.ok lo ρ) = kEv3 lo ρ (rdV ρ (stl x)) := nr rfl
theorem kEv3_ok (lo : Option Int) (ts : List T) : kEv3 lo ρ (some (.tup ts)) = .ok (.val (.tup (OAx.ev2 (ts.drop (HT.sIx ts.length 0 lo))))) ρ := nr rfl
def kPop (i : Nat) (ρ : R) (o : Option (SV × List T)) : Res Vl := match o with
  | some (x, ts) => (match ts[ts.length - 1]? with
    | some t => .ok (.val t) (ρ.set i (x.rep (.lst ts.dropLast)))
    | none => .bot)
  | none => .bot
def kPop2 (i : Nat) (ρ : R) (x : SV) (ts : List T) (o : Option T) : Res Vl := match o with
  | some t => .ok (.val t) (ρ.set i (x.rep (.lst ts.dropLast)))
  | none => .bot
theorem go_pop (i : Nat) : ePop i ρ = kPop i ρ (lstAt ρ i) := nr rfl
theorem kPop_ok (i : Nat) (x : SV) (ts : List T) : kPop i ρ (some (x, ts)) = kPop2 i ρ x ts ts[ts.length - 1]? := nr rfl
theorem kPop2_ok (i : Nat) (x : SV) (ts : List T) (t : T) : kPop2 i ρ x ts (some t) = .ok (.val t) (ρ.set i (x.rep (.lst ts.dropLast))) := nr rfl
def kSM (C : Str) (d : List T → FR) (as : M (List Vl)) (r : Res Vl) : Res Vl := bindR r fun x ρ1 => match x with
  | .val (.cls C') => if C' = C then bindR (as ρ1) fun xs ρ2 => (match fixA ρ2 xs with
    | some (ts, ρ3) => (match d ts with
      | .ok y _ => okV y ρ3
      | .ex C fs _ => .ex C fs ρ3
      | .bot => .bot)
    | none => .bot) else .bot
  | _ => .bot
theorem go_smeth (C : Str) (d : List T → FR) (f : M Vl) (as : M (List Vl)) : eSMeth C d f as ρ = kSM C d as (f ρ) := nr rfl
theorem kSM_ok (C : Str) (d : List T → FR) (as : M (List Vl)) : kSM C d as (.ok (.val (.cls C)) ρ) = kCall d (as ρ) := by
  show (if C = C then _ else _) = _
  rw [if_pos rfl]
  rfl
theorem kOwnL_ok (C : Str) (d : List T → FR) (gs hs : List (Str × T)) : kOwnL C d (.obj C gs) (.obj C hs) ρ = refB (d [.obj C gs, .obj C hs]) ρ := by
  show (if C = C ∧ C = C then _ else _) = _
  rw [if_pos ⟨rfl, rfl⟩]
theorem refB_bl (c : Bool) (o : Option OC) : refB (.ok (.val (.bl c)) o) ρ = .ok (.val (.bl c)) ρ := nr rfl
theorem refB_ex (C : Str) (fs : List (Str × T)) (o : Option OC) : refB (.ex C fs o) ρ = .ex C fs ρ := nr rfl
def kBO (C : Str) (d : List T → FR) (r : Res Vl) : Res Vl := bindR r fun x ρ1 => match fixV ρ1 x with
  | some (.obj C1 gs, ρ2) => if C1 = C then (match blR (d [.obj C gs]) with
    | some c => .ok (.val (.bl c)) ρ2
    | none => .bot) else .bot
  | _ => .bot
def kBO2 (C : Str) (d : List T → FR) (o : Option (T × R)) : Res Vl := match o with
  | some (.obj C1 gs, ρ2) => if C1 = C then (match blR (d [.obj C gs]) with
    | some c => .ok (.val (.bl c)) ρ2
    | none => .bot) else .bot
  | _ => .bot
def kBO3 (ρ : R) (o : Option Bool) : Res Vl := match o with
  | some c => .ok (.val (.bl c)) ρ
  | none => .bot
theorem go_boolO (C : Str) (d : List T → FR) (f : M Vl) : eBoolO C d f ρ = kBO C d (f ρ) := nr rfl
theorem kBO_ok (C : Str) (d : List T → FR) (x : Vl) : kBO C d (.ok x ρ) = kBO2 C d (fixV ρ x) := nr rfl
theorem kBO2_ok (C : Str) (d : List T → FR) (gs : List (Str × T)) : kBO2 C d (some (.obj C gs, ρ)) = kBO3 ρ (blR (d [.obj C gs])) := by
  show (if C = C then _ else _) = _
  rw [if_pos rfl]
  rfl
theorem kBO3_ok (c : Bool) : kBO3 ρ (some c) = .ok (.val (.bl c)) ρ := nr rfl
theorem bBoolT_tup (ts : List T) : bBoolT [.tup ts] = some (.val (.bl (!ts.isEmpty))) := nr rfl
theorem bBoolT_int (i : Int) : bBoolT [.int i] = some (.val (.bl (i != 0))) := nr rfl
theorem bBoolT_bl (b : Bool) : bBoolT [.bl b] = some (.val (.bl b)) := nr rfl
theorem oInW_ok (k : Int) (ns : List Int) : oInW (.int k) (.set ns) = some (.val (.bl (decide (k ∈ ns)))) := nr rfl
end
end MX
set_option Elab.async false
set_option linter.all false
set_option maxRecDepth 100000
set_option maxHeartbeats 4000000
namespace MX
open PySem PySem.Spec PyProof.Rows L2 GX PBx
section
variable {ρ : R}
def kJn (f : M Vl) (r : Res Vl) : Res Vl := bindR r fun x ρ1 => match rdV ρ1 x with
  | some (.str a) => bindR (f ρ1) fun y ρ2 => (match fixV ρ2 y with
    | some (t, ρ3) => (match seqOf t with
      | some ts => (match strsT ts with
        | some ys => if (ys.map (·.length)).sum + ys.length * a.length ≤ 16777216 then .ok (.val (.str (Txt.join a ys))) ρ3 else .bot
        | none => .bot)
      | none => .bot)
    | none => .bot)
  | _ => .bot
def kJn4 (a : Str) : Option (T × R) → Res Vl
  | some (t, ρ3) => (match seqOf t with
    | some ts => (match strsT ts with
      | some ys => if (ys.map (·.length)).sum + ys.length * a.length ≤ 16777216 then .ok (.val (.str (Txt.join a ys))) ρ3 else .bot
      | none => .bot)
    | none => .bot)
  | none => .bot
def kJn3 (a : Str) (r : Res Vl) : Res Vl := bindR r fun y ρ2 => kJn4 a (fixV ρ2 y)
def kJn2 (f : M Vl) (ρ1 : R) : Option T → Res Vl
  | some (.str a) => kJn3 a (f ρ1)
  | _ => .bot
def kJn5 (a : Str) (ρ3 : R) : Option (List Str) → Res Vl
  | some ys => if (ys.map (·.length)).sum + ys.length * a.length ≤ 16777216 then .ok (.val (.str (Txt.join a ys))) ρ3 else .bot
  | none => .bot
theorem go_join (o f : M Vl) : eJoin o f ρ = kJn f (o ρ) := nr rfl
theorem kJn_ok (f : M Vl) (x : Vl) : kJn f (.ok x ρ) = kJn2 f ρ (rdV ρ x) := nr rfl
theorem kJn2_ok (f : M Vl) (a : Str) : kJn2 f ρ (some (.str a)) = kJn3 a (f ρ) := nr rfl
theorem kJn3_ok (a : Str) (y : Vl) : kJn3 a (.ok y ρ) = kJn4 a (fixV ρ y) := nr rfl
theorem kJn4_lst (a : Str) (ts : List T) : kJn4 a (some (.lst ts, ρ)) = kJn5 a ρ (strsT ts) := nr rfl
theorem kJn4_tup (a : Str) (ts : List T) : kJn4 a (some (.tup ts, ρ)) = kJn5 a ρ (strsT ts) := nr rfl
theorem strsT_map : ∀ ys : List Str, strsT (ys.map T.str) = some ys
  | [] => rfl
  | y :: ys => by
    show (match strsT (ys.map T.str) with
      | some zs => some (y :: zs)
      | none => none) = _
    rw [strsT_map ys]
def kCV (N : Str) (d : List T → FR) (as : M (List Vl)) (ρ : R) : Option SV → Res Vl
  | some (.fz (.cls N')) => if N' = N then eCall d as ρ else .bot
  | _ => .bot
theorem go_callV (i : Nat) (N : Str) (d : List T → FR) (as : M (List Vl)) : eCallV i N d as ρ = kCV N d as ρ ρ[i]? := nr rfl
theorem kCV_ok (N : Str) (d : List T → FR) (as : M (List Vl)) : kCV N d as ρ (some (.fz (.cls N))) = eCall d as ρ := by
  show (if N = N then _ else _) = _
  rw [if_pos rfl]
def kCO2 (C : Str) (d : List T → FR) (as : M (List Vl)) : Option (T × R) → Res Vl
  | some (.obj C' gs, ρ2) => if C' = C then kMe3 (.obj C gs) d (as ρ2) else .bot
  | _ => .bot
def kCO (C : Str) (d : List T → FR) (as : M (List Vl)) (r : Res Vl) : Res Vl := bindR r fun x ρ1 => kCO2 C d as (fixV ρ1 x)
theorem go_callO (C : Str) (d : List T → FR) (f : M Vl) (as : M (List Vl)) : eCallO C d f as ρ = kCO C d as (f ρ) := nr rfl
theorem kCO_ok (C : Str) (d : List T → FR) (as : M (List Vl)) (x : Vl) : kCO C d as (.ok x ρ) = kCO2 C d as (fixV ρ x) := nr rfl
theorem kCO2_ok (C : Str) (d : List T → FR) (as : M (List Vl)) (gs : List (Str × T)) : kCO2 C d as (some (.obj C gs, ρ)) = kMe3 (.obj C gs) d (as ρ) := by
  show (if C = C then _ else _) = _
  rw [if_pos rfl]
def kAs2 (h1 h2 : T → R → Option R) (x : Vl) : S := fun ρ1 => match fixV ρ1 x with
  | some (t, ρ2) => (match h1 t ρ2 with
    | some ρ3 => (match h2 t ρ3 with
      | some ρ4 => .nx ρ4
      | none => .bot)
    | none => .bot)
  | none => .bot
def kAs3 (h1 h2 : T → R → Option R) : Option (T × R) → Out
  | some (t, ρ2) => (match h1 t ρ2 with
    | some ρ3 => (match h2 t ρ3 with
      | some ρ4 => .nx ρ4
      | none => .bot)
    | none => .bot)
  | none => .bot
def kAs4 (h2 : T → R → Option R) (t : T) : Option R → Out
  | some ρ3 => kNx (h2 t ρ3)
  | none => .bot
theorem go_asg2 (h1 h2 : T → R → Option R) (f : M Vl) : sAsg2 h1 h2 f ρ = kSt (kAs2 h1 h2) (f ρ) := nr rfl
theorem go_kAs2 (h1 h2 : T → R → Option R) (x : Vl) : kAs2 h1 h2 x ρ = kAs3 h1 h2 (fixV ρ x) := nr rfl
theorem kAs3_ok (h1 h2 : T → R → Option R) (t : T) : kAs3 h1 h2 (some (t, ρ)) = kAs4 h2 t (h1 t ρ) := nr rfl
theorem kAs4_ok (h2 : T → R → Option R) (t : T) : kAs4 h2 t (some ρ) = kNx (h2 t ρ) := nr rfl
def kTM (l : List (Str × (List (Str × T) → R → Out))) : Out → Out
  | .ex C' fs ρ1 => (match l.find? (fun p => decide (p.1 = C')) with
    | some p => p.2 fs ρ1
    | none => .bot)
  | o => o
theorem go_tryM (b : S) (l : List (Str × (List (Str × T) → R → Out))) : sTryM b l ρ = kTM l (b ρ) := by
  unfold sTryM kTM
  cases b ρ <;> rfl
theorem kTM_nx (l : List (Str × (List (Str × T) → R → Out))) : kTM l (.nx ρ) = .nx ρ := nr rfl
theorem kTM_rt (l : List (Str × (List (Str × T) → R → Out))) (x : Vl) : kTM l (.rt x ρ) = .rt x ρ := nr rfl
def kG2 (f g : M Vl) (r : Res Vl) : Res Vl := bindR r fun x ρ1 => match fixV ρ1 x with
  | some (.dct gs, ρ2) => bindR (f ρ2) fun y ρ3 => (match keyO (rdV ρ3 y) with
    | some k => bindR (g ρ3) fun z ρ4 => (match fixV ρ4 z with
      | some (u, ρ5) => .ok (.val ((getD gs k).getD u)) ρ5
      | none => .bot)
    | none => .bot)
  | _ => .bot
def kG6 (gs : List (Key × T)) (k : Key) : Option (T × R) → Res Vl
  | some (u, ρ5) => .ok (.val ((getD gs k).getD u)) ρ5
  | none => .bot
def kG5 (gs : List (Key × T)) (k : Key) (r : Res Vl) : Res Vl := bindR r fun z ρ4 => kG6 gs k (fixV ρ4 z)
def kG4 (gs : List (Key × T)) (g : M Vl) (ρ3 : R) : Option Key → Res Vl
  | some k => kG5 gs k (g ρ3)
  | none => .bot
def kG3 (gs : List (Key × T)) (g : M Vl) (r : Res Vl) : Res Vl := bindR r fun y ρ3 => kG4 gs g ρ3 (keyO (rdV ρ3 y))
def kGd2 (f g : M Vl) : Option (T × R) → Res Vl
  | some (.dct gs, ρ2) => kG3 gs g (f ρ2)
  | _ => .bot
theorem go_get2 (o f g : M Vl) : eGet2 o f g ρ = kG2 f g (o ρ) := nr rfl
theorem kG2_ok (f g : M Vl) (x : Vl) : kG2 f g (.ok x ρ) = kGd2 f g (fixV ρ x) := nr rfl
theorem kGd2_ok (f g : M Vl) (gs : List (Key × T)) : kGd2 f g (some (.dct gs, ρ)) = kG3 gs g (f ρ) := nr rfl
theorem kG3_ok (gs : List (Key × T)) (g : M Vl) (y : Vl) : kG3 gs g (.ok y ρ) = kG4 gs g ρ (keyO (rdV ρ y)) := nr rfl
theorem kG4_ok (gs : List (Key × T)) (g : M Vl) (k : Key) : kG4 gs g ρ (some k) = kG5 gs k (g ρ) := nr rfl
theorem kG5_ok (gs : List (Key × T)) (k : Key) (z : Vl) : kG5 gs k (.ok z ρ) = kG6 gs k (fixV ρ z) := nr rfl
theorem kG6_ok (gs : List (Key × T)) (k : Key) (u : T) : kG6 gs k (some (u, ρ)) = .ok (.val ((getD gs k).getD u)) ρ := nr rfl
theorem keyO_s (x : Str) : keyO (some (.str x)) = some (.inr x) := nr rfl
theorem ziX_sl (z : Str) (ts : List T) : ziX [.str z, .lst ts] = some (zipT (sgT z) ts) := nr rfl
theorem ziX_ls (z : Str) (ts : List T) : ziX [.lst ts, .str z] = some (zipT ts (sgT z)) := nr rfl
theorem ziX_ll (us ts : List T) : ziX [.lst ts, .lst us] = some (zipT ts us) := nr rfl
theorem ziX_tt (us ts : List T) : ziX [.tup ts, .tup us] = some (zipT ts us) := nr rfl
theorem enX_str (z : Str) : enX [.str z] = some (enT (sgT z)) := nr rfl
theorem enX_lst (ts : List T) : enX [.lst ts] = some (enT ts) := nr rfl
theorem enX_tup (ts : List T) : enX [.tup ts] = some (enT ts) := nr rfl
theorem revTT_ok (ts : List T) : revTT (.tup ts) = some (.val (.tup ts.reverse)) := nr rfl
theorem bStrU_str (a : Str) : bStrU [.str a] = some (.val (.str a)) := nr rfl
def kLc2 (h : T → R → Option R) (it1 : M (List T)) (h1 : T → R → Option R) (c1 : M Bool) (e : M Vl) (vs vs1 : List Nat) (r : Res (List T)) : Res Vl := bindR r fun ts ρ1 => if noAt ρ1 vs = true then lcL2 h it1 h1 c1 e vs vs1 ts [] ρ1 else .bot
theorem go_lc2 (its : M (List T)) (h : T → R → Option R) (it1 : M (List T)) (h1 : T → R → Option R) (c1 : M Bool) (e : M Vl) (vs vs1 : List Nat) : eLc2 its h it1 h1 c1 e vs vs1 ρ = kLc2 h it1 h1 c1 e vs vs1 (its ρ) := nr rfl
def cLc2 (h : T → R → Option R) (it1 : M (List T)) (h1 : T → R → Option R) (c1 : M Bool) (e : M Vl) (vs vs1 : List Nat) (ts : List T) (ρ1 : R) (b : Bool) : Res Vl := if b = true then lcL2 h it1 h1 c1 e vs vs1 ts [] ρ1 else .bot
theorem kLc2_ok (h : T → R → Option R) (it1 : M (List T)) (h1 : T → R → Option R) (c1 : M Bool) (e : M Vl) (vs vs1 : List Nat) (ts : List T) : kLc2 h it1 h1 c1 e vs vs1 (.ok ts ρ) = cLc2 h it1 h1 c1 e vs vs1 ts ρ (noAt ρ vs) := nr rfl
theorem cLc2_t (h : T → R → Option R) (it1 : M (List T)) (h1 : T → R → Option R) (c1 : M Bool) (e : M Vl) (vs vs1 : List Nat) (ts : List T) : cLc2 h it1 h1 c1 e vs vs1 ts ρ true = lcL2 h it1 h1 c1 e vs vs1 ts [] ρ := nr rfl
end
end MX
set_option Elab.async false
set_option linter.all false
set_option maxRecDepth 100000
set_option maxHeartbeats 4000000
namespace MX
open PySem PySem.Spec PyProof.Rows L2 GX
section
variable {ρ : R}
def kPL (i j : Nat) (t : T) (ρ : R) (o p : Option SV) : Out := match o, p with
  | some y, some z => if y.isIo = false ∧ z.isIo = false ∧ i ≠ j then .nx ((ρ.set i (.fz t)).set j (.ow (.lst []))) else .bot
  | _, _ => .bot
theorem go_parL (i j : Nat) (t : T) : sParL i j t ρ = kPL i j t ρ ρ[i]? ρ[j]? := rfl
theorem kPL_ok {i j : Nat} {t : T} {y z : SV} (h1 : y.isIo = false) (h2 : z.isIo = false) (h3 : (i == j) = false) : kPL i j t ρ (some y) (some z) = .nx ((ρ.set i (.fz t)).set j (.ow (.lst []))) := if_pos ⟨h1, h2, by simpa using h3⟩
def kPL3 (i j l : Nat) (t u : T) (ρ : R) (o p q : Option SV) : Out := match o, p, q with
  | some y, some z, some x => if y.isIo = false ∧ z.isIo = false ∧ x.isIo = false ∧ i ≠ j ∧ j ≠ l then .nx (((ρ.set i (.fz t)).set j (.ow (.lst []))).set l (.fz u)) else .bot
  | _, _, _ => .bot
theorem go_par3L (i j l : Nat) (t u : T) : sPar3L i j l t u ρ = kPL3 i j l t u ρ ρ[i]? ρ[j]? ρ[l]? := rfl
theorem kPL3_ok {i j l : Nat} {t u : T} {y z x : SV} (h1 : y.isIo = false) (h2 : z.isIo = false) (h3 : x.isIo = false) (h4 : (i == j) = false) (h5 : (j == l) = false) : kPL3 i j l t u ρ (some y) (some z) (some x) = .nx (((ρ.set i (.fz t)).set j (.ow (.lst []))).set l (.fz u)) := if_pos ⟨h1, h2, h3, by simpa using h4, by simpa using h5⟩
end
end MX
set_option Elab.async false
set_option linter.all false
set_option maxRecDepth 100000
set_option maxHeartbeats 4000000
set_option exponentiation.threshold 2000
namespace K24
open PySem PySem.Spec PyProof.Rows L2 GX MX Pg
local macro_rules | `(tactic| push_cast [$a,*]) => `(tactic| simp only [go_op, kOp_ok, kOp2_ok, go_un, kUn_ok, go_b, kB_ok, go_tV, kTV_ok, go_tR, kTR_ok, go_tA, kA_t, kA_f, go_tO, kO_t, kO_f, go_tN, kN_ok, go_eA, kEA_t, kEA_f, go_eO, kEO_t, kEO_f, go_eN, kEN_ok, go_eIf, kIf_t, kIf_f, go_aC, kAC_ok, kAC2_ok, go_aN, go_eL, kL_ok, go_eT, kTu_ok, go_mkL, go_mkT, kFL_ok, kFT_ok, fx_val, fx_own, fx_sl, kFxS_fz, kFxS_ow, fxA_nil, fxA_cons, kFA_ok, kFA2_ok, rd_val, rd_own, rd_sl, kRdS_fz, kRdS_ow, kRdS_io, fix_lst, fix_ins, rdA_nil, rdA_cons, kRA_ok, kRA2_ok, go_eV, kV_fz, kV_ow, kV_io, go_eC, ap1_ok, ap2_ok, opt_ok, go_eSl, kSl_ok, kSl2_ok, kSl3_ok, go_pN, go_pS, kPS_ok, isI', slT_lst, slT_lsk, slT_tup, go_eCh, kCh_ok, kCh2_ok, kCh3_t, kCh3_f, go_call, kCall_ok, kCall2_ok, kCall3_val, kCall3_own, kCall3_ex, go_callI, kCI_ok, kCI2_ok, kCI3_ok, kCI4_val, kCI4_own, kCI4_ex, rep_ow, rep_io, go_ownAt, kOA_ow, kOA_io, go_lstAt, kLA_ow, kLA_io, go_app, kAp_ok, kAp2_ok, kAp3_ok, kAp4_ok, go_seq, kSeq_nx, kSeq_rt, kSeq_ex, kSeq_bk, kSeq_ct, go_set, kSt_ok, kSt_ex, go_ret, go_retN, go_nx, go_x, go_kX, go_if, kSIf_t, kSIf_f, kSIf_ex, out_val, out_own, out_sl, kOut_fz, kOut_ow, go_put, kPut_ok, cPut_f, putV_own, putV_val, putV_sl, kPutF_ok, go_gN, kGN_ok, cGN_f, go_gT, cGT_ok, go_gn, go_gc, kGc_ok, go_tup, go_kTup, kTup2_ok, kNx_ok, go_par, kPar_ok, kPar2_ok, kPar3_ok, go_aug, kAug_ok, kAug2_ok, kAug3_ok, go_for, kFor_ok, go_iF, kIF_ok, kIF2_ok, go_iA, kIA_ok, kIA2_ok, seqOf_lst, seqOf_lsk, seqOf_tup, go_rg1, go_rg2, go_rg3, go_enA, go_ziA, go_lc, kLc_ok, cLc_t, go_putIx, go_kPI, kPI2_ok, kPI3_ok, kPI4_ok, kPI5_ok, kPI6_ok, kPI7_ok, go_runD, go_runI, kD_nx, kD_val, kD_own, go_kNo, go_io0, oIx_lst, oIx_lsk, oIx_tup, oNeg_int, isB_bl, go_lc1, kL1_ok, kL2_t, kL2_f, kL3_ok, kL4_ok, kL5_ok, go_tY, wp_nil, wp_cons, kW_ok, kW2_fz, kW2_no, kW2_ow, stl_val, stl_own, stl_sl, oI0_int, oI, bLen, bI1, bI2, bInt, bTup, bLst, bIsi, tyN, revT, oCat, oCatT, MX.eqT, oEq, oNe, MX.isNon, oIsN, oNotN, trT, noAt, cLst, cTup, cAp, cGT_ok, fzs, isIo_no, isIo_fz, isIo_ow, isIo_io, List.getElem?_cons_zero, List.getElem?_cons_succ, List.set_cons_zero, List.set_cons_succ, List.length_cons, List.length_nil, List.replicate, List.cons_append, List.nil_append, List.all_cons, List.all_nil, ↓reduceIte, Bool.and_true, Bool.true_and, Bool.false_eq_true, Bool.not_true, Bool.not_false, decide_true, decide_false, Nat.zero_add, Nat.add_zero, Nat.sub_self, Nat.reduceAdd, Nat.reduceLeDiff, Nat.reduceSub, Nat.le_refl, Nat.zero_le, Nat.succ_eq_add_one, reduceCtorEq, CMul, CDiv, Int.reduceNeg, Int.reducePow, Int.reduceLT, Int.reduceLE, Int.reduceMul, Int.reduceAdd, Int.reduceSub, Int.reduceToNat, or_true, true_or, and_true, true_and, and_self, cpow10, cpow2, cpow5, ix30, ix31, ix32, at30, at31, at32, at20, at21, at40, at41, at42, at43, Int.reduceMod, Nat.reduceLT, cst0, cst1, cst2, cst3, cst4, cst5, cst6, cst7, noX_ok, noX_ex, go_xD, go_xI, kE_nx, kE_val, kE_own, kE_ex, go_callK, kCK_ok, kCK2_ok, kCK3_ok, kCK4_ok, cCK, callR_val, callR_own, callR_ex, byK1, byK01, byK10, byK012, go_callIO, kIO_ok, kIO2_val, kIO2_own, kIO2_ex, go_lam, kLam_ok, kLam_ex, kLam2_ok, kLam3_val, kLam3_own, go_rs, kRs_ok, kRs2_ok, go_xf, kXf_ok, kXf2_ok, kXf3_ok, go_rv1, kRv_ok, go_iW, kWi_ok, kWi2_ok, Int.reduceEq, go_parE, kPG_ok, kPF_ok, kPE_ok, kPH_ok, go_edc, go_lrg, kLR_ok, atz0, atz1, atz2, atz3, atz4, fix_dct, lkp, lkp0, putT_nil, putT_cons, kOF_ok, go_fldS, kFS_ok, kFS_ex, kFS2_ok, kFS3_ok, go_insAt, kIAt_ow, kIAt_io, go_own2, kO1_ok, kO2_ok, kO3_ok, kO4_ok, kOwnX_ok, refR_obj, refR_own, refR_ex, blR_ok, kQ_f, kQ_t, kOwnQ_ok, isO_obj, isO_tup, isO_str, isO_int, isO_bl, isO_non, isO_lst, isO_edc, isO_dct, go_isO, kIsO_ok, kOwnI_ok, go_tOwn, kTO_ok, kTO2_ok, kTO3_ok, go_notO, go_make, kMk_ok, kMk2_ok, kMk3_ok, kMk3_ex, dS_ok, go_aStar, kSA_ok, kSA2_ok, kSA3_ok, kSA4_nil, go_meth, kMe_ok, kMe2_ok, kMe3_ok, go_dc0, oDG_i, oDG_s, oDI_i, oDN_i, go_dput, kDP_ok, kDP2_ok, kDP3_ok, kDP4_ok, kDP5_ok, kDP6_ok, keyO_int, keyO_str, go_dctAt, kDA_ow, kDA_io, go_dc, kDc_ok, cDc_t, go_dc1, kD1_ok, kD2_t, kD2_f, kD3_ok, kD4_ok, kD5_ok, kD6_ok, kD7_ok, go_iKs, go_lcD, kLD_ok, kLD2_ok, kLD3_ok, go_count, kCt_ok, kCt2_ok, kCt3_ok, go_par2, kP2_ok, go_par3, kP3c_ok, kP3_ok, kP3a_ok, kP3b_ok, go_lam2, kLm2_ok, kLm2_ex, kLm3_ok, kLm4_ok, kLm5_val, kOp_ex, kUn_ex, kB_ex, kAC_ex, go_bTs, kBT_ok, go_bIs, kBI_ok, kBI2_ok, bBool_int, bBool_bl, bStrI_ok, fixA_vals, blTs_map, oFld_ok, List.mem_cons, List.not_mem_nil, or_false, List.mem_singleton, inT_iT, go_m0, kM0_ok, kM0b_ok, kVal_ok, go_m1, kM1_ok, kM1b_ok, kM1c_ok, kM1d_ok, go_part, go_split, kSp_ok, kSpb_ok, kSpc_ok, kSpd_ok, oIxS_ok, bGcd_ok, bDivm_ok, bIntS_ok, go_slS, kSS_ok, kSS2_ok, kSS3_ok, slS_ok, go_sg, kSg_ok, kSg2_ok, fmtT_str, fmtT_int, go_js0, go_js, kJs_ok, kJs2_ok, go_ch3, kC3_ok, kC3b_ok, kC3c_f, kC3c_t, kC3d_ok, kC3e_f, kC3e_t, kC3f_ok, go_try, kTry_ex, kTry_nx, kTry_rt, go_makeL, go_cmeth, kCm_ok, kCm2_ok, kCm3_ok, kFR_val, kFR_own, kFR_ex, go_strO, kSt1_ok, kStO_ok, kStS_ok, go_reprO, kRp_ok, kRp2_ok, kRp3_ok, go_putTup, kPt1_ok, kPt_ok, kPt2_ok, kPt3_ok, oNotB_ok, go_ev2, kEv_ok, kEv2_ok, kEv3_ok, go_pop, kPop_ok, kPop2_ok, go_smeth, kSM_ok, kOwnL_ok, refB_bl, refB_ex, go_boolO, kBO_ok, kBO2_ok, kBO3_ok, bBoolT_tup, bBoolT_int, bBoolT_bl, oInW_ok, List.append_nil, ziB_lst, ziB_tup, rgA_ok, go_join, kJn_ok, kJn2_ok, kJn3_ok, kJn4_lst, kJn4_tup, strsT_map, go_callV, kCV_ok, go_callO, kCO_ok, kCO2_ok, go_asg2, go_kAs2, kAs3_ok, kAs4_ok, go_tryM, kTM_nx, kTM_rt, go_get2, kG2_ok, kGd2_ok, kG3_ok, kG4_ok, kG5_ok, kG6_ok, keyO_s, ziX_sl, ziX_ls, ziX_ll, ziX_tt, enX_str, enX_lst, enX_tup, revTT_ok, bStrU_str, go_lc2, kLc2_ok, cLc2_t, go_parL, kPL_ok, go_par3L, kPL3_ok, go_rsB, kRs3_ok, kRs4_ok, $a,*])
def St (c : OC) : Prop := ∃ z g n : Int, c = .lst [.int z, .int g, .int n] ∧ 0 ≤ z ∧ z < 2147483629
theorem ix3 : ixN 3 1 = some 1 := rfl
theorem draw_ok {c : OC} {m : Int} (hc : St c) (m0 : 0 < m) (m1 : m.natAbs.log2 < 9000) : ∃ r c', d_q_draw c [.int m] = .ok (.val (.int r)) (some c') ∧ 0 ≤ r ∧ r < m ∧ St c' := by
  obtain ⟨z, g, n, rfl, g0, g1⟩ := hc
  have s1 : 0 ≤ z % 40009 + 20011 ∧ z % 40009 + 20011 < 2 ^ 17 := by omega
  have w1 : CMulW z (z % 40009 + 20011) := wide_mul (a := 31) (b := 17) (by omega) (by omega) (by omega) (by omega) (by omega)
  have zb : ∀ x : Int, 0 ≤ x % 2147483629 ∧ x % 2147483629 < 2147483629 := fun x => by omega
  by_cases hg : 0 < g
  · have dp : CDivP g m := ⟨m0, PyProof.noPylong_of_log2 m1⟩
    refine ⟨g % m, .lst [.int ((z * (z % 40009 + 20011) + 69997 * (n + 1) + 7) % 2147483629), .int (g / m), .int (n + 1)], ?_, Int.emod_nonneg _ (by omega), Int.emod_lt_of_pos _ m0, _, _, _, rfl, zb _⟩
    push_cast [d_q_draw, m_q_draw, hg, w1, dp, ix3]
  · refine ⟨((z * (z % 40009 + 20011) + 69997 * (n + 1) + 7) % 2147483629 / 97) % m, .lst [.int ((z * (z % 40009 + 20011) + 69997 * (n + 1) + 7) % 2147483629), .int g, .int (n + 1)], ?_, Int.emod_nonneg _ (by omega), Int.emod_lt_of_pos _ m0, _, _, _, rfl, zb _⟩
    push_cast [d_q_draw, m_q_draw, hg, w1, m0]
theorem purse_loop {sc kk : T} {y4 : SV} : ∀ (its : List Int) (c : Int) (y : SV), y.isIo = false → ∃ c' y', forL (gN 3) m_q_purse_b1 (iT its) [.fz sc, .fz kk, .fz (.int c), y, .no] = .nx [.fz sc, .fz kk, .fz (.int c'), y', .no]
  | [], c, y, _ => ⟨c, y, rfl⟩
  | t :: ts, c, y, hy => by
    obtain ⟨c', y', e⟩ := purse_loop (sc := sc) (kk := kk) (y4 := y4) ts ((c * 60013 + t) % 2147483629) (.fz (.int t)) rfl
    refine ⟨c', y', ?_⟩
    have e2 : m_q_purse_b1 [.fz sc, .fz kk, .fz (.int c), .fz (.int t), .no] = .nx [.fz sc, .fz kk, .fz (.int ((c * 60013 + t) % 2147483629)), .fz (.int t), .no] := by
      push_cast [m_q_purse_b1]
    show forL (gN 3) m_q_purse_b1 (.int t :: iT ts) _ = _
    rw [forL_cons (gN_ok (y := y) rfl hy) e2]
    exact e
theorem cut_iT (ns : List Int) (lo hi : Option Int) : ∃ ms, cutT (iT ns) lo hi = iT ms := by
  unfold cutT
  rw [← List.map_drop, ← List.map_take]
  exact ⟨_, rfl⟩
theorem purse_ok {ns : List Int} {k : Nat} (hk : k ≤ 63) : ∃ c, d_q_purse [.lsk (iT ns), .int k] = .ok (.own c) none ∧ St c := by
  have hl : ((iT ns).length : Int) = (ns.length : Int) := by rw [List.length_map]
  obtain ⟨ms, em⟩ := cut_iT ns none (some 3)
  obtain ⟨v0, y0, e1⟩ := purse_loop (sc := .lsk (iT ns)) (kk := .int k) (y4 := .no) ms (7 * (ns.length : Int) + 11 * (k : Int)) .no rfl
  have p18 : (10 : Int) ^ 18 = 1000000000000000000 := by decide
  have w3 : ∀ v : Int, CPow (v % 2147483629 + 314159) 3 := fun v => ⟨by decide, by decide, by omega⟩
  have zb : ∀ x : Int, 0 ≤ x % 2147483629 ∧ x % 2147483629 < 2147483629 := fun x => by omega
  have t3 : (3 : Int).toNat = 3 := rfl
  have fin : ∀ v g : Int, St (.lst [.int (((v % 2147483629 + 314159) ^ 3) % 2147483629), .int g, .int 0]) := fun v g => ⟨_, _, _, rfl, zb _⟩
  by_cases h : k < ns.length
  · have hI : (k : Int) < (ns.length : Int) := by omega
    have a0 : MX.atT (iT ns) (k : Int) = some (.val (.int ns[k])) := atI_nat' (iT_get (List.getElem?_eq_getElem h))
    generalize ns[k] = v at a0
    have w := w3 v
    by_cases z : v < 0
    · refine ⟨_, ?_, fin v (-v)⟩
      push_cast [d_q_purse, m_q_purse, hl, hI, a0, z, em, e1, p18, w, t3]
    · by_cases z2 : 1000000000000000000 ≤ v
      · refine ⟨_, ?_, fin v v⟩
        push_cast [d_q_purse, m_q_purse, hl, hI, a0, z, z2, em, e1, p18, w, t3]
      · refine ⟨_, ?_, fin v 0⟩
        push_cast [d_q_purse, m_q_purse, hl, hI, a0, z, z2, em, e1, p18, w, t3]
  · have hI : ¬ (k : Int) < (ns.length : Int) := by omega
    have w := w3 v0
    by_cases z : v0 < 0
    · refine ⟨_, ?_, fin v0 (-v0)⟩
      push_cast [d_q_purse, m_q_purse, hl, hI, z, em, e1, p18, w, t3]
    · by_cases z2 : 1000000000000000000 ≤ v0
      · refine ⟨_, ?_, fin v0 v0⟩
        push_cast [d_q_purse, m_q_purse, hl, hI, z, z2, em, e1, p18, w, t3]
      · refine ⟨_, ?_, fin v0 0⟩
        push_cast [d_q_purse, m_q_purse, hl, hI, z, z2, em, e1, p18, w, t3]
theorem rg_of (n : Int) (m : Nat) (h : n = m) (h2 : m ≤ 1000) : rg1 [.int n] = some (rngT 0 1 m) := by
  subst h
  rw [go_rg1, if_pos (by omega)]
  rfl
theorem rng_el {m : Nat} {t : T} (ht : t ∈ rngT 0 1 m) : ∃ i : Nat, i < m ∧ t = .int i := by
  obtain ⟨i, hi⟩ := List.getElem?_of_mem ht
  obtain ⟨hil, rfl⟩ := rngT_at hi
  exact ⟨i, hil, by congr 1; omega⟩
end K24
set_option Elab.async false
set_option linter.all false
set_option maxRecDepth 100000
set_option maxHeartbeats 8000000
set_option exponentiation.threshold 2000
namespace K24
open PySem PySem.Spec PyProof.Rows L2 GX MX Pg
local macro_rules | `(tactic| push_cast [$a,*]) => `(tactic| simp only [go_op, kOp_ok, kOp2_ok, go_un, kUn_ok, go_b, kB_ok, go_tV, kTV_ok, go_tR, kTR_ok, go_tA, kA_t, kA_f, go_tO, kO_t, kO_f, go_tN, kN_ok, go_eA, kEA_t, kEA_f, go_eO, kEO_t, kEO_f, go_eN, kEN_ok, go_eIf, kIf_t, kIf_f, go_aC, kAC_ok, kAC2_ok, go_aN, go_eL, kL_ok, go_eT, kTu_ok, go_mkL, go_mkT, kFL_ok, kFT_ok, fx_val, fx_own, fx_sl, kFxS_fz, kFxS_ow, fxA_nil, fxA_cons, kFA_ok, kFA2_ok, rd_val, rd_own, rd_sl, kRdS_fz, kRdS_ow, kRdS_io, fix_lst, fix_ins, rdA_nil, rdA_cons, kRA_ok, kRA2_ok, go_eV, kV_fz, kV_ow, kV_io, go_eC, ap1_ok, ap2_ok, opt_ok, go_eSl, kSl_ok, kSl2_ok, kSl3_ok, go_pN, go_pS, kPS_ok, isI', slT_lst, slT_lsk, slT_tup, go_eCh, kCh_ok, kCh2_ok, kCh3_t, kCh3_f, go_call, kCall_ok, kCall2_ok, kCall3_val, kCall3_own, kCall3_ex, go_callI, kCI_ok, kCI2_ok, kCI3_ok, kCI4_val, kCI4_own, kCI4_ex, rep_ow, rep_io, go_ownAt, kOA_ow, kOA_io, go_lstAt, kLA_ow, kLA_io, go_app, kAp_ok, kAp2_ok, kAp3_ok, kAp4_ok, go_seq, kSeq_nx, kSeq_rt, kSeq_ex, kSeq_bk, kSeq_ct, go_set, kSt_ok, kSt_ex, go_ret, go_retN, go_nx, go_x, go_kX, go_if, kSIf_t, kSIf_f, kSIf_ex, out_val, out_own, out_sl, kOut_fz, kOut_ow, go_put, kPut_ok, cPut_f, putV_own, putV_val, putV_sl, kPutF_ok, go_gN, kGN_ok, cGN_f, go_gT, cGT_ok, go_gn, go_gc, kGc_ok, go_tup, go_kTup, kTup2_ok, kNx_ok, go_par, kPar_ok, kPar2_ok, kPar3_ok, go_aug, kAug_ok, kAug2_ok, kAug3_ok, go_for, kFor_ok, go_iF, kIF_ok, kIF2_ok, go_iA, kIA_ok, kIA2_ok, seqOf_lst, seqOf_lsk, seqOf_tup, go_rg1, go_rg2, go_rg3, go_enA, go_ziA, go_lc, kLc_ok, cLc_t, go_putIx, go_kPI, kPI2_ok, kPI3_ok, kPI4_ok, kPI5_ok, kPI6_ok, kPI7_ok, go_runD, go_runI, kD_nx, kD_val, kD_own, go_kNo, go_io0, oIx_lst, oIx_lsk, oIx_tup, oNeg_int, isB_bl, go_lc1, kL1_ok, kL2_t, kL2_f, kL3_ok, kL4_ok, kL5_ok, go_tY, wp_nil, wp_cons, kW_ok, kW2_fz, kW2_no, kW2_ow, stl_val, stl_own, stl_sl, oI0_int, oI, bLen, bI1, bI2, bInt, bTup, bLst, bIsi, tyN, revT, oCat, oCatT, MX.eqT, oEq, oNe, MX.isNon, oIsN, oNotN, trT, noAt, cLst, cTup, cAp, cGT_ok, fzs, isIo_no, isIo_fz, isIo_ow, isIo_io, List.getElem?_cons_zero, List.getElem?_cons_succ, List.set_cons_zero, List.set_cons_succ, List.length_cons, List.length_nil, List.replicate, List.cons_append, List.nil_append, List.all_cons, List.all_nil, ↓reduceIte, Bool.and_true, Bool.true_and, Bool.false_eq_true, Bool.not_true, Bool.not_false, decide_true, decide_false, Nat.zero_add, Nat.add_zero, Nat.sub_self, Nat.reduceAdd, Nat.reduceLeDiff, Nat.reduceSub, Nat.le_refl, Nat.zero_le, Nat.succ_eq_add_one, reduceCtorEq, CMul, CDiv, Int.reduceNeg, Int.reducePow, Int.reduceLT, Int.reduceLE, Int.reduceMul, Int.reduceAdd, Int.reduceSub, Int.reduceToNat, or_true, true_or, and_true, true_and, and_self, cpow10, cpow2, cpow5, ix30, ix31, ix32, at30, at31, at32, at20, at21, at40, at41, at42, at43, Int.reduceMod, Nat.reduceLT, cst0, cst1, cst2, cst3, cst4, cst5, cst6, cst7, noX_ok, noX_ex, go_xD, go_xI, kE_nx, kE_val, kE_own, kE_ex, go_callK, kCK_ok, kCK2_ok, kCK3_ok, kCK4_ok, cCK, callR_val, callR_own, callR_ex, byK1, byK01, byK10, byK012, go_callIO, kIO_ok, kIO2_val, kIO2_own, kIO2_ex, go_lam, kLam_ok, kLam_ex, kLam2_ok, kLam3_val, kLam3_own, go_rs, kRs_ok, kRs2_ok, go_xf, kXf_ok, kXf2_ok, kXf3_ok, go_rv1, kRv_ok, go_iW, kWi_ok, kWi2_ok, Int.reduceEq, go_parE, kPG_ok, kPF_ok, kPE_ok, kPH_ok, go_edc, go_lrg, kLR_ok, atz0, atz1, atz2, atz3, atz4, fix_dct, lkp, lkp0, putT_nil, putT_cons, kOF_ok, go_fldS, kFS_ok, kFS_ex, kFS2_ok, kFS3_ok, go_insAt, kIAt_ow, kIAt_io, go_own2, kO1_ok, kO2_ok, kO3_ok, kO4_ok, kOwnX_ok, refR_obj, refR_own, refR_ex, blR_ok, kQ_f, kQ_t, kOwnQ_ok, isO_obj, isO_tup, isO_str, isO_int, isO_bl, isO_non, isO_lst, isO_edc, isO_dct, go_isO, kIsO_ok, kOwnI_ok, go_tOwn, kTO_ok, kTO2_ok, kTO3_ok, go_notO, go_make, kMk_ok, kMk2_ok, kMk3_ok, kMk3_ex, dS_ok, go_aStar, kSA_ok, kSA2_ok, kSA3_ok, kSA4_nil, go_meth, kMe_ok, kMe2_ok, kMe3_ok, go_dc0, oDG_i, oDG_s, oDI_i, oDN_i, go_dput, kDP_ok, kDP2_ok, kDP3_ok, kDP4_ok, kDP5_ok, kDP6_ok, keyO_int, keyO_str, go_dctAt, kDA_ow, kDA_io, go_dc, kDc_ok, cDc_t, go_dc1, kD1_ok, kD2_t, kD2_f, kD3_ok, kD4_ok, kD5_ok, kD6_ok, kD7_ok, go_iKs, go_lcD, kLD_ok, kLD2_ok, kLD3_ok, go_count, kCt_ok, kCt2_ok, kCt3_ok, go_par2, kP2_ok, go_par3, kP3c_ok, kP3_ok, kP3a_ok, kP3b_ok, go_lam2, kLm2_ok, kLm2_ex, kLm3_ok, kLm4_ok, kLm5_val, kOp_ex, kUn_ex, kB_ex, kAC_ex, go_bTs, kBT_ok, go_bIs, kBI_ok, kBI2_ok, bBool_int, bBool_bl, bStrI_ok, fixA_vals, blTs_map, oFld_ok, List.mem_cons, List.not_mem_nil, or_false, List.mem_singleton, inT_iT, go_m0, kM0_ok, kM0b_ok, kVal_ok, go_m1, kM1_ok, kM1b_ok, kM1c_ok, kM1d_ok, go_part, go_split, kSp_ok, kSpb_ok, kSpc_ok, kSpd_ok, oIxS_ok, bGcd_ok, bDivm_ok, bIntS_ok, go_slS, kSS_ok, kSS2_ok, kSS3_ok, slS_ok, go_sg, kSg_ok, kSg2_ok, fmtT_str, fmtT_int, go_js0, go_js, kJs_ok, kJs2_ok, go_ch3, kC3_ok, kC3b_ok, kC3c_f, kC3c_t, kC3d_ok, kC3e_f, kC3e_t, kC3f_ok, go_try, kTry_ex, kTry_nx, kTry_rt, go_makeL, go_cmeth, kCm_ok, kCm2_ok, kCm3_ok, kFR_val, kFR_own, kFR_ex, go_strO, kSt1_ok, kStO_ok, kStS_ok, go_reprO, kRp_ok, kRp2_ok, kRp3_ok, go_putTup, kPt1_ok, kPt_ok, kPt2_ok, kPt3_ok, oNotB_ok, go_ev2, kEv_ok, kEv2_ok, kEv3_ok, go_pop, kPop_ok, kPop2_ok, go_smeth, kSM_ok, kOwnL_ok, refB_bl, refB_ex, go_boolO, kBO_ok, kBO2_ok, kBO3_ok, bBoolT_tup, bBoolT_int, bBoolT_bl, oInW_ok, List.append_nil, ziB_lst, ziB_tup, rgA_ok, go_join, kJn_ok, kJn2_ok, kJn3_ok, kJn4_lst, kJn4_tup, strsT_map, go_callV, kCV_ok, go_callO, kCO_ok, kCO2_ok, go_asg2, go_kAs2, kAs3_ok, kAs4_ok, go_tryM, kTM_nx, kTM_rt, go_get2, kG2_ok, kGd2_ok, kG3_ok, kG4_ok, kG5_ok, kG6_ok, keyO_s, ziX_sl, ziX_ls, ziX_ll, ziX_tt, enX_str, enX_lst, enX_tup, revTT_ok, bStrU_str, go_lc2, kLc2_ok, cLc2_t, go_parL, kPL_ok, go_par3L, kPL3_ok, go_rsB, kRs3_ok, kRs4_ok, $a,*])
def F18 : List (Str × Cv) := [((Str.ofString "InvalidNumber"), .own (Str.ofString "InvalidNumber")), ((Str.ofString "InvalidRatio"), .own (Str.ofString "InvalidRatio")), ((Str.ofString "InvalidShare"), .own (Str.ofString "InvalidShare")), ((Str.ofString "InvalidName"), .own (Str.ofString "InvalidName")), ((Str.ofString "InvalidRows"), .own (Str.ofString "InvalidRows")), ((Str.ofString "NotRising"), .own (Str.ofString "NotRising")), ((Str.ofString "InvalidLimits"), .own (Str.ofString "InvalidLimits")), ((Str.ofString "InvalidLooks"), .own (Str.ofString "InvalidLooks")), ((Str.ofString "InvalidMarks"), .own (Str.ofString "InvalidMarks")), ((Str.ofString "InvalidState"), .own (Str.ofString "InvalidState")), ((Str.ofString "InvalidLines"), .own (Str.ofString "InvalidLines")), ((Str.ofString "InvalidSize"), .own (Str.ofString "InvalidSize")), ((Str.ofString "InvalidMarked"), .own (Str.ofString "InvalidMarked")), ((Str.ofString "InvalidSeries"), .own (Str.ofString "InvalidSeries")), ((Str.ofString "InvalidModulus"), .own (Str.ofString "InvalidModulus")), ((Str.ofString "InvalidKeys"), .own (Str.ofString "InvalidKeys")), ((Str.ofString "InvalidLayers"), .own (Str.ofString "InvalidLayers")), ((Str.ofString "InvalidTables"), .own (Str.ofString "InvalidTables"))]
def S24 : List (Str × Cv) := [((Str.ofString "InvalidDeeds"), .own (Str.ofString "InvalidDeeds")), ((Str.ofString "InvalidText"), .own (Str.ofString "InvalidText")), ((Str.ofString "InvalidCommand"), .own (Str.ofString "InvalidCommand")), ((Str.ofString "NotAPlan"), .own (Str.ofString "NotAPlan")), ((Str.ofString "NotClaims"), .own (Str.ofString "NotClaims")), ((Str.ofString "NotFlipped"), .own (Str.ofString "NotFlipped")), ((Str.ofString "NotATable"), .own (Str.ofString "NotATable")), ((Str.ofString "NotASample"), .own (Str.ofString "NotASample")), ((Str.ofString "UnknownName"), .own (Str.ofString "UnknownName")), ((Str.ofString "UnknownRow"), .own (Str.ofString "UnknownRow")), ((Str.ofString "KnownRow"), .own (Str.ofString "KnownRow")), ((Str.ofString "SameRank"), .own (Str.ofString "SameRank")), ((Str.ofString "Contradiction"), .own (Str.ofString "Contradiction")), ((Str.ofString "NotHeld"), .own (Str.ofString "NotHeld")), ((Str.ofString "Busy"), .own (Str.ofString "Busy")), ((Str.ofString "NothingToUndo"), .own (Str.ofString "NothingToUndo")), ((Str.ofString "TooFew"), .own (Str.ofString "TooFew")), ((Str.ofString "TooFine"), .own (Str.ofString "TooFine")), ((Str.ofString "InputError"), .own (Str.ofString "InputError")), ((Str.ofString "StateError"), .own (Str.ofString "StateError")), ((Str.ofString "LimitError"), .own (Str.ofString "LimitError")), ((Str.ofString "ValueError"), .blt "ValueError"), ((Str.ofString "LookupError"), .blt "LookupError"), ((Str.ofString "ArithmeticError"), .blt "ArithmeticError")]
def wsH (f : Cv → Bool) (l : List (Str × Cv)) : List Str := l.filterMap fun p => if f p.2 = true then some p.1 else none
theorem lcL_fm {α : Type} {h : T → MX.R → Option MX.R} {c : M Bool} {e : M Vl} {vs : List Nat} {ρ : MX.R} (q : α → T) (g : α → Option T) : ∀ (xs : List α) (acc : List T), acc.length + xs.length ≤ 16777216 → (∀ x ∈ xs, lc1 h c e vs (q x) ρ = some (g x, ρ)) →
    lcL h c e vs (xs.map q) acc ρ = .ok (.own (.lst (acc ++ xs.filterMap g))) ρ
  | [], acc, _, _ => by
    show Res.ok _ _ = _
    rw [List.filterMap_nil, List.append_nil]
  | x :: xs, acc, hl, hx => by
    rw [List.length_cons] at hl
    rw [List.map_cons, lcL_cons (hx x List.mem_cons_self) (by omega)]
    cases hg : g x with
    | none =>
      rw [List.filterMap_cons_none hg]
      show lcL h c e vs (xs.map q) (acc ++ []) ρ = _
      rw [List.append_nil]
      exact lcL_fm q g xs acc (by omega) fun y hy => hx y (List.mem_cons_of_mem _ hy)
    | some t =>
      rw [List.filterMap_cons_some hg]
      have := lcL_fm (h := h) (c := c) (e := e) (vs := vs) (ρ := ρ) q g xs (acc ++ [t]) (by rw [List.length_append]; simp; omega) fun y hy => hx y (List.mem_cons_of_mem _ hy)
      rw [List.append_assoc] at this
      exact this
def pw (f : Cv → Bool) (p : Str × Cv) : T := .tup [.str p.1, .bl (f p.2)]
theorem fm_str (f : Cv → Bool) (l : List (Str × Cv)) : l.filterMap (fun p => if f p.2 = true then some (T.str p.1) else none) = (wsH f l).map T.str := by
  unfold wsH
  rw [List.map_filterMap]
  congr 1
  funext p
  by_cases h : f p.2 = true
  · rw [if_pos h, if_pos h]
    rfl
  · rw [if_neg h, if_neg h]
    rfl
theorem lc_first_words {f : Cv → Bool} {x0 x1 : SV} (l : List (Str × Cv)) (hl : l.length ≤ 100) : lcL (gT 2 (gc (gN 2) (gc (gN 3) gn))) m_q_first_words_k1 m_q_first_words_e2 [2, 3] (l.map (pw f)) [] [x0, x1, .no, .no] = .ok (.own (.lst ((wsH f l).map T.str))) [x0, x1, .no, .no] := by
  rw [← fm_str]
  refine lcL_fm (pw f) (fun p => if f p.2 = true then some (T.str p.1) else none) l [] (by simp; omega) fun p hp => ?_
  cases hf : f p.2 with
  | true => push_cast [pw, hf, m_q_first_words_k1, m_q_first_words_e2]
  | false => push_cast [pw, hf, m_q_first_words_k1, m_q_first_words_e2]
theorem lc_words {f : Cv → Bool} {x0 x1 : SV} (l : List (Str × Cv)) (hl : l.length ≤ 100) : lcL (gT 2 (gc (gN 2) (gc (gN 3) gn))) m_q_words_k1 m_q_words_e2 [2, 3] (l.map (pw f)) [] [x0, x1, .no, .no] = .ok (.own (.lst ((wsH f l).map T.str))) [x0, x1, .no, .no] := by
  rw [← fm_str]
  refine lcL_fm (pw f) (fun p => if f p.2 = true then some (T.str p.1) else none) l [] (by simp; omega) fun p hp => ?_
  cases hf : f p.2 with
  | true => push_cast [pw, hf, m_q_words_k1, m_q_words_e2]
  | false => push_cast [pw, hf, m_q_words_k1, m_q_words_e2]
theorem first_words_ok {C : Str} {gs : List (Str × T)} {f : Cv → Bool} (h : ∀ c ∈ colsH, tabAt c (tabH colsH TBH C) = some (f c)) : d_q_first_words [.err C gs] = .ok (.own (.lst ((wsH f F18).map T.str))) none := by
  have i0 := isH_own (gs := gs) (h (.own (Str.ofString "InvalidNumber")) (List.mem_cons_self))
  have i1 := isH_own (gs := gs) (h (.own (Str.ofString "InvalidRatio")) ((List.mem_cons_of_mem _ List.mem_cons_self)))
  have i2 := isH_own (gs := gs) (h (.own (Str.ofString "InvalidShare")) ((List.mem_cons_of_mem _ (List.mem_cons_of_mem _ List.mem_cons_self))))
  have i3 := isH_own (gs := gs) (h (.own (Str.ofString "InvalidName")) ((List.mem_cons_of_mem _ (List.mem_cons_of_mem _ (List.mem_cons_of_mem _ List.mem_cons_self)))))
  have i4 := isH_own (gs := gs) (h (.own (Str.ofString "InvalidRows")) ((List.mem_cons_of_mem _ (List.mem_cons_of_mem _ (List.mem_cons_of_mem _ (List.mem_cons_of_mem _ List.mem_cons_self))))))
  have i5 := isH_own (gs := gs) (h (.own (Str.ofString "NotRising")) ((List.mem_cons_of_mem _ (List.mem_cons_of_mem _ (List.mem_cons_of_mem _ (List.mem_cons_of_mem _ (List.mem_cons_of_mem _ List.mem_cons_self)))))))
  have i6 := isH_own (gs := gs) (h (.own (Str.ofString "InvalidLimits")) ((List.mem_cons_of_mem _ (List.mem_cons_of_mem _ (List.mem_cons_of_mem _ (List.mem_cons_of_mem _ (List.mem_cons_of_mem _ (List.mem_cons_of_mem _ List.mem_cons_self))))))))
  have i7 := isH_own (gs := gs) (h (.own (Str.ofString "InvalidLooks")) ((List.mem_cons_of_mem _ (List.mem_cons_of_mem _ (List.mem_cons_of_mem _ (List.mem_cons_of_mem _ (List.mem_cons_of_mem _ (List.mem_cons_of_mem _ (List.mem_cons_of_mem _ List.mem_cons_self)))))))))
  have i8 := isH_own (gs := gs) (h (.own (Str.ofString "InvalidMarks")) ((List.mem_cons_of_mem _ (List.mem_cons_of_mem _ (List.mem_cons_of_mem _ (List.mem_cons_of_mem _ (List.mem_cons_of_mem _ (List.mem_cons_of_mem _ (List.mem_cons_of_mem _ (List.mem_cons_of_mem _ List.mem_cons_self))))))))))
  have i9 := isH_own (gs := gs) (h (.own (Str.ofString "InvalidState")) ((List.mem_cons_of_mem _ (List.mem_cons_of_mem _ (List.mem_cons_of_mem _ (List.mem_cons_of_mem _ (List.mem_cons_of_mem _ (List.mem_cons_of_mem _ (List.mem_cons_of_mem _ (List.mem_cons_of_mem _ (List.mem_cons_of_mem _ List.mem_cons_self)))))))))))
  have i10 := isH_own (gs := gs) (h (.own (Str.ofString "InvalidLines")) ((List.mem_cons_of_mem _ (List.mem_cons_of_mem _ (List.mem_cons_of_mem _ (List.mem_cons_of_mem _ (List.mem_cons_of_mem _ (List.mem_cons_of_mem _ (List.mem_cons_of_mem _ (List.mem_cons_of_mem _ (List.mem_cons_of_mem _ (List.mem_cons_of_mem _ List.mem_cons_self))))))))))))
  have i11 := isH_own (gs := gs) (h (.own (Str.ofString "InvalidSize")) ((List.mem_cons_of_mem _ (List.mem_cons_of_mem _ (List.mem_cons_of_mem _ (List.mem_cons_of_mem _ (List.mem_cons_of_mem _ (List.mem_cons_of_mem _ (List.mem_cons_of_mem _ (List.mem_cons_of_mem _ (List.mem_cons_of_mem _ (List.mem_cons_of_mem _ (List.mem_cons_of_mem _ List.mem_cons_self)))))))))))))
  have i12 := isH_own (gs := gs) (h (.own (Str.ofString "InvalidMarked")) ((List.mem_cons_of_mem _ (List.mem_cons_of_mem _ (List.mem_cons_of_mem _ (List.mem_cons_of_mem _ (List.mem_cons_of_mem _ (List.mem_cons_of_mem _ (List.mem_cons_of_mem _ (List.mem_cons_of_mem _ (List.mem_cons_of_mem _ (List.mem_cons_of_mem _ (List.mem_cons_of_mem _ (List.mem_cons_of_mem _ List.mem_cons_self))))))))))))))
  have i13 := isH_own (gs := gs) (h (.own (Str.ofString "InvalidSeries")) ((List.mem_cons_of_mem _ (List.mem_cons_of_mem _ (List.mem_cons_of_mem _ (List.mem_cons_of_mem _ (List.mem_cons_of_mem _ (List.mem_cons_of_mem _ (List.mem_cons_of_mem _ (List.mem_cons_of_mem _ (List.mem_cons_of_mem _ (List.mem_cons_of_mem _ (List.mem_cons_of_mem _ (List.mem_cons_of_mem _ (List.mem_cons_of_mem _ List.mem_cons_self)))))))))))))))
  have i14 := isH_own (gs := gs) (h (.own (Str.ofString "InvalidModulus")) ((List.mem_cons_of_mem _ (List.mem_cons_of_mem _ (List.mem_cons_of_mem _ (List.mem_cons_of_mem _ (List.mem_cons_of_mem _ (List.mem_cons_of_mem _ (List.mem_cons_of_mem _ (List.mem_cons_of_mem _ (List.mem_cons_of_mem _ (List.mem_cons_of_mem _ (List.mem_cons_of_mem _ (List.mem_cons_of_mem _ (List.mem_cons_of_mem _ (List.mem_cons_of_mem _ List.mem_cons_self))))))))))))))))
  have i15 := isH_own (gs := gs) (h (.own (Str.ofString "InvalidKeys")) ((List.mem_cons_of_mem _ (List.mem_cons_of_mem _ (List.mem_cons_of_mem _ (List.mem_cons_of_mem _ (List.mem_cons_of_mem _ (List.mem_cons_of_mem _ (List.mem_cons_of_mem _ (List.mem_cons_of_mem _ (List.mem_cons_of_mem _ (List.mem_cons_of_mem _ (List.mem_cons_of_mem _ (List.mem_cons_of_mem _ (List.mem_cons_of_mem _ (List.mem_cons_of_mem _ (List.mem_cons_of_mem _ List.mem_cons_self)))))))))))))))))
  have i16 := isH_own (gs := gs) (h (.own (Str.ofString "InvalidLayers")) ((List.mem_cons_of_mem _ (List.mem_cons_of_mem _ (List.mem_cons_of_mem _ (List.mem_cons_of_mem _ (List.mem_cons_of_mem _ (List.mem_cons_of_mem _ (List.mem_cons_of_mem _ (List.mem_cons_of_mem _ (List.mem_cons_of_mem _ (List.mem_cons_of_mem _ (List.mem_cons_of_mem _ (List.mem_cons_of_mem _ (List.mem_cons_of_mem _ (List.mem_cons_of_mem _ (List.mem_cons_of_mem _ (List.mem_cons_of_mem _ List.mem_cons_self))))))))))))))))))
  have i17 := isH_own (gs := gs) (h (.own (Str.ofString "InvalidTables")) ((List.mem_cons_of_mem _ (List.mem_cons_of_mem _ (List.mem_cons_of_mem _ (List.mem_cons_of_mem _ (List.mem_cons_of_mem _ (List.mem_cons_of_mem _ (List.mem_cons_of_mem _ (List.mem_cons_of_mem _ (List.mem_cons_of_mem _ (List.mem_cons_of_mem _ (List.mem_cons_of_mem _ (List.mem_cons_of_mem _ (List.mem_cons_of_mem _ (List.mem_cons_of_mem _ (List.mem_cons_of_mem _ (List.mem_cons_of_mem _ (List.mem_cons_of_mem _ List.mem_cons_self)))))))))))))))))))
  have lc := fun x0 x1 => lc_first_words (f := f) (x0 := x0) (x1 := x1) F18 (by decide)
  generalize wsH f F18 = V at lc ⊢
  simp only [F18, pw, List.map_cons, List.map_nil] at lc
  push_cast [d_q_first_words, m_q_first_words, lc, i0, i1, i2, i3, i4, i5, i6, i7, i8, i9, i10, i11, i12, i13, i14, i15, i16, i17]
theorem wsH_len (f : Cv → Bool) (l : List (Str × Cv)) : (wsH f l).length ≤ l.length := List.length_filterMap_le _ _
theorem words_ok {C : Str} {gs : List (Str × T)} {f : Cv → Bool} (h : ∀ c ∈ colsH, tabAt c (tabH colsH TBH C) = some (f c)) : d_q_words [.err C gs] = .ok (.own (.lst ((wsH f F18 ++ wsH f S24).map T.str))) none := by
  have i0 := isH_own (gs := gs) (h (.own (Str.ofString "InvalidDeeds")) ((List.mem_cons_of_mem _ (List.mem_cons_of_mem _ (List.mem_cons_of_mem _ (List.mem_cons_of_mem _ (List.mem_cons_of_mem _ (List.mem_cons_of_mem _ (List.mem_cons_of_mem _ (List.mem_cons_of_mem _ (List.mem_cons_of_mem _ (List.mem_cons_of_mem _ (List.mem_cons_of_mem _ (List.mem_cons_of_mem _ (List.mem_cons_of_mem _ (List.mem_cons_of_mem _ (List.mem_cons_of_mem _ (List.mem_cons_of_mem _ (List.mem_cons_of_mem _ (List.mem_cons_of_mem _ List.mem_cons_self))))))))))))))))))))
  have i1 := isH_own (gs := gs) (h (.own (Str.ofString "InvalidText")) ((List.mem_cons_of_mem _ (List.mem_cons_of_mem _ (List.mem_cons_of_mem _ (List.mem_cons_of_mem _ (List.mem_cons_of_mem _ (List.mem_cons_of_mem _ (List.mem_cons_of_mem _ (List.mem_cons_of_mem _ (List.mem_cons_of_mem _ (List.mem_cons_of_mem _ (List.mem_cons_of_mem _ (List.mem_cons_of_mem _ (List.mem_cons_of_mem _ (List.mem_cons_of_mem _ (List.mem_cons_of_mem _ (List.mem_cons_of_mem _ (List.mem_cons_of_mem _ (List.mem_cons_of_mem _ (List.mem_cons_of_mem _ List.mem_cons_self)))))))))))))))))))))
  have i2 := isH_own (gs := gs) (h (.own (Str.ofString "InvalidCommand")) ((List.mem_cons_of_mem _ (List.mem_cons_of_mem _ (List.mem_cons_of_mem _ (List.mem_cons_of_mem _ (List.mem_cons_of_mem _ (List.mem_cons_of_mem _ (List.mem_cons_of_mem _ (List.mem_cons_of_mem _ (List.mem_cons_of_mem _ (List.mem_cons_of_mem _ (List.mem_cons_of_mem _ (List.mem_cons_of_mem _ (List.mem_cons_of_mem _ (List.mem_cons_of_mem _ (List.mem_cons_of_mem _ (List.mem_cons_of_mem _ (List.mem_cons_of_mem _ (List.mem_cons_of_mem _ (List.mem_cons_of_mem _ (List.mem_cons_of_mem _ List.mem_cons_self))))))))))))))))))))))
  have i3 := isH_own (gs := gs) (h (.own (Str.ofString "NotAPlan")) ((List.mem_cons_of_mem _ (List.mem_cons_of_mem _ (List.mem_cons_of_mem _ (List.mem_cons_of_mem _ (List.mem_cons_of_mem _ (List.mem_cons_of_mem _ (List.mem_cons_of_mem _ (List.mem_cons_of_mem _ (List.mem_cons_of_mem _ (List.mem_cons_of_mem _ (List.mem_cons_of_mem _ (List.mem_cons_of_mem _ (List.mem_cons_of_mem _ (List.mem_cons_of_mem _ (List.mem_cons_of_mem _ (List.mem_cons_of_mem _ (List.mem_cons_of_mem _ (List.mem_cons_of_mem _ (List.mem_cons_of_mem _ (List.mem_cons_of_mem _ (List.mem_cons_of_mem _ List.mem_cons_self)))))))))))))))))))))))
  have i4 := isH_own (gs := gs) (h (.own (Str.ofString "NotClaims")) ((List.mem_cons_of_mem _ (List.mem_cons_of_mem _ (List.mem_cons_of_mem _ (List.mem_cons_of_mem _ (List.mem_cons_of_mem _ (List.mem_cons_of_mem _ (List.mem_cons_of_mem _ (List.mem_cons_of_mem _ (List.mem_cons_of_mem _ (List.mem_cons_of_mem _ (List.mem_cons_of_mem _ (List.mem_cons_of_mem _ (List.mem_cons_of_mem _ (List.mem_cons_of_mem _ (List.mem_cons_of_mem _ (List.mem_cons_of_mem _ (List.mem_cons_of_mem _ (List.mem_cons_of_mem _ (List.mem_cons_of_mem _ (List.mem_cons_of_mem _ (List.mem_cons_of_mem _ (List.mem_cons_of_mem _ List.mem_cons_self))))))))))))))))))))))))
  have i5 := isH_own (gs := gs) (h (.own (Str.ofString "NotFlipped")) ((List.mem_cons_of_mem _ (List.mem_cons_of_mem _ (List.mem_cons_of_mem _ (List.mem_cons_of_mem _ (List.mem_cons_of_mem _ (List.mem_cons_of_mem _ (List.mem_cons_of_mem _ (List.mem_cons_of_mem _ (List.mem_cons_of_mem _ (List.mem_cons_of_mem _ (List.mem_cons_of_mem _ (List.mem_cons_of_mem _ (List.mem_cons_of_mem _ (List.mem_cons_of_mem _ (List.mem_cons_of_mem _ (List.mem_cons_of_mem _ (List.mem_cons_of_mem _ (List.mem_cons_of_mem _ (List.mem_cons_of_mem _ (List.mem_cons_of_mem _ (List.mem_cons_of_mem _ (List.mem_cons_of_mem _ (List.mem_cons_of_mem _ List.mem_cons_self)))))))))))))))))))))))))
  have i6 := isH_own (gs := gs) (h (.own (Str.ofString "NotATable")) ((List.mem_cons_of_mem _ (List.mem_cons_of_mem _ (List.mem_cons_of_mem _ (List.mem_cons_of_mem _ (List.mem_cons_of_mem _ (List.mem_cons_of_mem _ (List.mem_cons_of_mem _ (List.mem_cons_of_mem _ (List.mem_cons_of_mem _ (List.mem_cons_of_mem _ (List.mem_cons_of_mem _ (List.mem_cons_of_mem _ (List.mem_cons_of_mem _ (List.mem_cons_of_mem _ (List.mem_cons_of_mem _ (List.mem_cons_of_mem _ (List.mem_cons_of_mem _ (List.mem_cons_of_mem _ (List.mem_cons_of_mem _ (List.mem_cons_of_mem _ (List.mem_cons_of_mem _ (List.mem_cons_of_mem _ (List.mem_cons_of_mem _ (List.mem_cons_of_mem _ List.mem_cons_self))))))))))))))))))))))))))
  have i7 := isH_own (gs := gs) (h (.own (Str.ofString "NotASample")) ((List.mem_cons_of_mem _ (List.mem_cons_of_mem _ (List.mem_cons_of_mem _ (List.mem_cons_of_mem _ (List.mem_cons_of_mem _ (List.mem_cons_of_mem _ (List.mem_cons_of_mem _ (List.mem_cons_of_mem _ (List.mem_cons_of_mem _ (List.mem_cons_of_mem _ (List.mem_cons_of_mem _ (List.mem_cons_of_mem _ (List.mem_cons_of_mem _ (List.mem_cons_of_mem _ (List.mem_cons_of_mem _ (List.mem_cons_of_mem _ (List.mem_cons_of_mem _ (List.mem_cons_of_mem _ (List.mem_cons_of_mem _ (List.mem_cons_of_mem _ (List.mem_cons_of_mem _ (List.mem_cons_of_mem _ (List.mem_cons_of_mem _ (List.mem_cons_of_mem _ (List.mem_cons_of_mem _ List.mem_cons_self)))))))))))))))))))))))))))
  have i8 := isH_own (gs := gs) (h (.own (Str.ofString "UnknownName")) ((List.mem_cons_of_mem _ (List.mem_cons_of_mem _ (List.mem_cons_of_mem _ (List.mem_cons_of_mem _ (List.mem_cons_of_mem _ (List.mem_cons_of_mem _ (List.mem_cons_of_mem _ (List.mem_cons_of_mem _ (List.mem_cons_of_mem _ (List.mem_cons_of_mem _ (List.mem_cons_of_mem _ (List.mem_cons_of_mem _ (List.mem_cons_of_mem _ (List.mem_cons_of_mem _ (List.mem_cons_of_mem _ (List.mem_cons_of_mem _ (List.mem_cons_of_mem _ (List.mem_cons_of_mem _ (List.mem_cons_of_mem _ (List.mem_cons_of_mem _ (List.mem_cons_of_mem _ (List.mem_cons_of_mem _ (List.mem_cons_of_mem _ (List.mem_cons_of_mem _ (List.mem_cons_of_mem _ (List.mem_cons_of_mem _ List.mem_cons_self))))))))))))))))))))))))))))
  have i9 := isH_own (gs := gs) (h (.own (Str.ofString "UnknownRow")) ((List.mem_cons_of_mem _ (List.mem_cons_of_mem _ (List.mem_cons_of_mem _ (List.mem_cons_of_mem _ (List.mem_cons_of_mem _ (List.mem_cons_of_mem _ (List.mem_cons_of_mem _ (List.mem_cons_of_mem _ (List.mem_cons_of_mem _ (List.mem_cons_of_mem _ (List.mem_cons_of_mem _ (List.mem_cons_of_mem _ (List.mem_cons_of_mem _ (List.mem_cons_of_mem _ (List.mem_cons_of_mem _ (List.mem_cons_of_mem _ (List.mem_cons_of_mem _ (List.mem_cons_of_mem _ (List.mem_cons_of_mem _ (List.mem_cons_of_mem _ (List.mem_cons_of_mem _ (List.mem_cons_of_mem _ (List.mem_cons_of_mem _ (List.mem_cons_of_mem _ (List.mem_cons_of_mem _ (List.mem_cons_of_mem _ (List.mem_cons_of_mem _ List.mem_cons_self)))))))))))))))))))))))))))))
  have i10 := isH_own (gs := gs) (h (.own (Str.ofString "KnownRow")) ((List.mem_cons_of_mem _ (List.mem_cons_of_mem _ (List.mem_cons_of_mem _ (List.mem_cons_of_mem _ (List.mem_cons_of_mem _ (List.mem_cons_of_mem _ (List.mem_cons_of_mem _ (List.mem_cons_of_mem _ (List.mem_cons_of_mem _ (List.mem_cons_of_mem _ (List.mem_cons_of_mem _ (List.mem_cons_of_mem _ (List.mem_cons_of_mem _ (List.mem_cons_of_mem _ (List.mem_cons_of_mem _ (List.mem_cons_of_mem _ (List.mem_cons_of_mem _ (List.mem_cons_of_mem _ (List.mem_cons_of_mem _ (List.mem_cons_of_mem _ (List.mem_cons_of_mem _ (List.mem_cons_of_mem _ (List.mem_cons_of_mem _ (List.mem_cons_of_mem _ (List.mem_cons_of_mem _ (List.mem_cons_of_mem _ (List.mem_cons_of_mem _ (List.mem_cons_of_mem _ List.mem_cons_self))))))))))))))))))))))))))))))
  have i11 := isH_own (gs := gs) (h (.own (Str.ofString "SameRank")) ((List.mem_cons_of_mem _ (List.mem_cons_of_mem _ (List.mem_cons_of_mem _ (List.mem_cons_of_mem _ (List.mem_cons_of_mem _ (List.mem_cons_of_mem _ (List.mem_cons_of_mem _ (List.mem_cons_of_mem _ (List.mem_cons_of_mem _ (List.mem_cons_of_mem _ (List.mem_cons_of_mem _ (List.mem_cons_of_mem _ (List.mem_cons_of_mem _ (List.mem_cons_of_mem _ (List.mem_cons_of_mem _ (List.mem_cons_of_mem _ (List.mem_cons_of_mem _ (List.mem_cons_of_mem _ (List.mem_cons_of_mem _ (List.mem_cons_of_mem _ (List.mem_cons_of_mem _ (List.mem_cons_of_mem _ (List.mem_cons_of_mem _ (List.mem_cons_of_mem _ (List.mem_cons_of_mem _ (List.mem_cons_of_mem _ (List.mem_cons_of_mem _ (List.mem_cons_of_mem _ (List.mem_cons_of_mem _ List.mem_cons_self)))))))))))))))))))))))))))))))
  have i12 := isH_own (gs := gs) (h (.own (Str.ofString "Contradiction")) ((List.mem_cons_of_mem _ (List.mem_cons_of_mem _ (List.mem_cons_of_mem _ (List.mem_cons_of_mem _ (List.mem_cons_of_mem _ (List.mem_cons_of_mem _ (List.mem_cons_of_mem _ (List.mem_cons_of_mem _ (List.mem_cons_of_mem _ (List.mem_cons_of_mem _ (List.mem_cons_of_mem _ (List.mem_cons_of_mem _ (List.mem_cons_of_mem _ (List.mem_cons_of_mem _ (List.mem_cons_of_mem _ (List.mem_cons_of_mem _ (List.mem_cons_of_mem _ (List.mem_cons_of_mem _ (List.mem_cons_of_mem _ (List.mem_cons_of_mem _ (List.mem_cons_of_mem _ (List.mem_cons_of_mem _ (List.mem_cons_of_mem _ (List.mem_cons_of_mem _ (List.mem_cons_of_mem _ (List.mem_cons_of_mem _ (List.mem_cons_of_mem _ (List.mem_cons_of_mem _ (List.mem_cons_of_mem _ (List.mem_cons_of_mem _ List.mem_cons_self))))))))))))))))))))))))))))))))
  have i13 := isH_own (gs := gs) (h (.own (Str.ofString "NotHeld")) ((List.mem_cons_of_mem _ (List.mem_cons_of_mem _ (List.mem_cons_of_mem _ (List.mem_cons_of_mem _ (List.mem_cons_of_mem _ (List.mem_cons_of_mem _ (List.mem_cons_of_mem _ (List.mem_cons_of_mem _ (List.mem_cons_of_mem _ (List.mem_cons_of_mem _ (List.mem_cons_of_mem _ (List.mem_cons_of_mem _ (List.mem_cons_of_mem _ (List.mem_cons_of_mem _ (List.mem_cons_of_mem _ (List.mem_cons_of_mem _ (List.mem_cons_of_mem _ (List.mem_cons_of_mem _ (List.mem_cons_of_mem _ (List.mem_cons_of_mem _ (List.mem_cons_of_mem _ (List.mem_cons_of_mem _ (List.mem_cons_of_mem _ (List.mem_cons_of_mem _ (List.mem_cons_of_mem _ (List.mem_cons_of_mem _ (List.mem_cons_of_mem _ (List.mem_cons_of_mem _ (List.mem_cons_of_mem _ (List.mem_cons_of_mem _ (List.mem_cons_of_mem _ List.mem_cons_self)))))))))))))))))))))))))))))))))
  have i14 := isH_own (gs := gs) (h (.own (Str.ofString "Busy")) ((List.mem_cons_of_mem _ (List.mem_cons_of_mem _ (List.mem_cons_of_mem _ (List.mem_cons_of_mem _ (List.mem_cons_of_mem _ (List.mem_cons_of_mem _ (List.mem_cons_of_mem _ (List.mem_cons_of_mem _ (List.mem_cons_of_mem _ (List.mem_cons_of_mem _ (List.mem_cons_of_mem _ (List.mem_cons_of_mem _ (List.mem_cons_of_mem _ (List.mem_cons_of_mem _ (List.mem_cons_of_mem _ (List.mem_cons_of_mem _ (List.mem_cons_of_mem _ (List.mem_cons_of_mem _ (List.mem_cons_of_mem _ (List.mem_cons_of_mem _ (List.mem_cons_of_mem _ (List.mem_cons_of_mem _ (List.mem_cons_of_mem _ (List.mem_cons_of_mem _ (List.mem_cons_of_mem _ (List.mem_cons_of_mem _ (List.mem_cons_of_mem _ (List.mem_cons_of_mem _ (List.mem_cons_of_mem _ (List.mem_cons_of_mem _ (List.mem_cons_of_mem _ (List.mem_cons_of_mem _ List.mem_cons_self))))))))))))))))))))))))))))))))))
  have i15 := isH_own (gs := gs) (h (.own (Str.ofString "NothingToUndo")) ((List.mem_cons_of_mem _ (List.mem_cons_of_mem _ (List.mem_cons_of_mem _ (List.mem_cons_of_mem _ (List.mem_cons_of_mem _ (List.mem_cons_of_mem _ (List.mem_cons_of_mem _ (List.mem_cons_of_mem _ (List.mem_cons_of_mem _ (List.mem_cons_of_mem _ (List.mem_cons_of_mem _ (List.mem_cons_of_mem _ (List.mem_cons_of_mem _ (List.mem_cons_of_mem _ (List.mem_cons_of_mem _ (List.mem_cons_of_mem _ (List.mem_cons_of_mem _ (List.mem_cons_of_mem _ (List.mem_cons_of_mem _ (List.mem_cons_of_mem _ (List.mem_cons_of_mem _ (List.mem_cons_of_mem _ (List.mem_cons_of_mem _ (List.mem_cons_of_mem _ (List.mem_cons_of_mem _ (List.mem_cons_of_mem _ (List.mem_cons_of_mem _ (List.mem_cons_of_mem _ (List.mem_cons_of_mem _ (List.mem_cons_of_mem _ (List.mem_cons_of_mem _ (List.mem_cons_of_mem _ (List.mem_cons_of_mem _ List.mem_cons_self)))))))))))))))))))))))))))))))))))
  have i16 := isH_own (gs := gs) (h (.own (Str.ofString "TooFew")) ((List.mem_cons_of_mem _ (List.mem_cons_of_mem _ (List.mem_cons_of_mem _ (List.mem_cons_of_mem _ (List.mem_cons_of_mem _ (List.mem_cons_of_mem _ (List.mem_cons_of_mem _ (List.mem_cons_of_mem _ (List.mem_cons_of_mem _ (List.mem_cons_of_mem _ (List.mem_cons_of_mem _ (List.mem_cons_of_mem _ (List.mem_cons_of_mem _ (List.mem_cons_of_mem _ (List.mem_cons_of_mem _ (List.mem_cons_of_mem _ (List.mem_cons_of_mem _ (List.mem_cons_of_mem _ (List.mem_cons_of_mem _ (List.mem_cons_of_mem _ (List.mem_cons_of_mem _ (List.mem_cons_of_mem _ (List.mem_cons_of_mem _ (List.mem_cons_of_mem _ (List.mem_cons_of_mem _ (List.mem_cons_of_mem _ (List.mem_cons_of_mem _ (List.mem_cons_of_mem _ (List.mem_cons_of_mem _ (List.mem_cons_of_mem _ (List.mem_cons_of_mem _ (List.mem_cons_of_mem _ (List.mem_cons_of_mem _ (List.mem_cons_of_mem _ List.mem_cons_self))))))))))))))))))))))))))))))))))))
  have i17 := isH_own (gs := gs) (h (.own (Str.ofString "TooFine")) ((List.mem_cons_of_mem _ (List.mem_cons_of_mem _ (List.mem_cons_of_mem _ (List.mem_cons_of_mem _ (List.mem_cons_of_mem _ (List.mem_cons_of_mem _ (List.mem_cons_of_mem _ (List.mem_cons_of_mem _ (List.mem_cons_of_mem _ (List.mem_cons_of_mem _ (List.mem_cons_of_mem _ (List.mem_cons_of_mem _ (List.mem_cons_of_mem _ (List.mem_cons_of_mem _ (List.mem_cons_of_mem _ (List.mem_cons_of_mem _ (List.mem_cons_of_mem _ (List.mem_cons_of_mem _ (List.mem_cons_of_mem _ (List.mem_cons_of_mem _ (List.mem_cons_of_mem _ (List.mem_cons_of_mem _ (List.mem_cons_of_mem _ (List.mem_cons_of_mem _ (List.mem_cons_of_mem _ (List.mem_cons_of_mem _ (List.mem_cons_of_mem _ (List.mem_cons_of_mem _ (List.mem_cons_of_mem _ (List.mem_cons_of_mem _ (List.mem_cons_of_mem _ (List.mem_cons_of_mem _ (List.mem_cons_of_mem _ (List.mem_cons_of_mem _ (List.mem_cons_of_mem _ List.mem_cons_self)))))))))))))))))))))))))))))))))))))
  have i18 := isH_own (gs := gs) (h (.own (Str.ofString "InputError")) ((List.mem_cons_of_mem _ (List.mem_cons_of_mem _ (List.mem_cons_of_mem _ (List.mem_cons_of_mem _ (List.mem_cons_of_mem _ (List.mem_cons_of_mem _ (List.mem_cons_of_mem _ (List.mem_cons_of_mem _ (List.mem_cons_of_mem _ (List.mem_cons_of_mem _ (List.mem_cons_of_mem _ (List.mem_cons_of_mem _ (List.mem_cons_of_mem _ (List.mem_cons_of_mem _ (List.mem_cons_of_mem _ (List.mem_cons_of_mem _ (List.mem_cons_of_mem _ (List.mem_cons_of_mem _ (List.mem_cons_of_mem _ (List.mem_cons_of_mem _ (List.mem_cons_of_mem _ (List.mem_cons_of_mem _ (List.mem_cons_of_mem _ (List.mem_cons_of_mem _ (List.mem_cons_of_mem _ (List.mem_cons_of_mem _ (List.mem_cons_of_mem _ (List.mem_cons_of_mem _ (List.mem_cons_of_mem _ (List.mem_cons_of_mem _ (List.mem_cons_of_mem _ (List.mem_cons_of_mem _ (List.mem_cons_of_mem _ (List.mem_cons_of_mem _ (List.mem_cons_of_mem _ (List.mem_cons_of_mem _ List.mem_cons_self))))))))))))))))))))))))))))))))))))))
  have i19 := isH_own (gs := gs) (h (.own (Str.ofString "StateError")) ((List.mem_cons_of_mem _ (List.mem_cons_of_mem _ (List.mem_cons_of_mem _ (List.mem_cons_of_mem _ (List.mem_cons_of_mem _ (List.mem_cons_of_mem _ (List.mem_cons_of_mem _ (List.mem_cons_of_mem _ (List.mem_cons_of_mem _ (List.mem_cons_of_mem _ (List.mem_cons_of_mem _ (List.mem_cons_of_mem _ (List.mem_cons_of_mem _ (List.mem_cons_of_mem _ (List.mem_cons_of_mem _ (List.mem_cons_of_mem _ (List.mem_cons_of_mem _ (List.mem_cons_of_mem _ (List.mem_cons_of_mem _ (List.mem_cons_of_mem _ (List.mem_cons_of_mem _ (List.mem_cons_of_mem _ (List.mem_cons_of_mem _ (List.mem_cons_of_mem _ (List.mem_cons_of_mem _ (List.mem_cons_of_mem _ (List.mem_cons_of_mem _ (List.mem_cons_of_mem _ (List.mem_cons_of_mem _ (List.mem_cons_of_mem _ (List.mem_cons_of_mem _ (List.mem_cons_of_mem _ (List.mem_cons_of_mem _ (List.mem_cons_of_mem _ (List.mem_cons_of_mem _ (List.mem_cons_of_mem _ (List.mem_cons_of_mem _ List.mem_cons_self)))))))))))))))))))))))))))))))))))))))
  have i20 := isH_own (gs := gs) (h (.own (Str.ofString "LimitError")) ((List.mem_cons_of_mem _ (List.mem_cons_of_mem _ (List.mem_cons_of_mem _ (List.mem_cons_of_mem _ (List.mem_cons_of_mem _ (List.mem_cons_of_mem _ (List.mem_cons_of_mem _ (List.mem_cons_of_mem _ (List.mem_cons_of_mem _ (List.mem_cons_of_mem _ (List.mem_cons_of_mem _ (List.mem_cons_of_mem _ (List.mem_cons_of_mem _ (List.mem_cons_of_mem _ (List.mem_cons_of_mem _ (List.mem_cons_of_mem _ (List.mem_cons_of_mem _ (List.mem_cons_of_mem _ (List.mem_cons_of_mem _ (List.mem_cons_of_mem _ (List.mem_cons_of_mem _ (List.mem_cons_of_mem _ (List.mem_cons_of_mem _ (List.mem_cons_of_mem _ (List.mem_cons_of_mem _ (List.mem_cons_of_mem _ (List.mem_cons_of_mem _ (List.mem_cons_of_mem _ (List.mem_cons_of_mem _ (List.mem_cons_of_mem _ (List.mem_cons_of_mem _ (List.mem_cons_of_mem _ (List.mem_cons_of_mem _ (List.mem_cons_of_mem _ (List.mem_cons_of_mem _ (List.mem_cons_of_mem _ (List.mem_cons_of_mem _ (List.mem_cons_of_mem _ List.mem_cons_self))))))))))))))))))))))))))))))))))))))))
  have i21 := isH_blt (gs := gs) (h (.blt "ValueError") ((List.mem_cons_of_mem _ (List.mem_cons_of_mem _ (List.mem_cons_of_mem _ (List.mem_cons_of_mem _ (List.mem_cons_of_mem _ (List.mem_cons_of_mem _ (List.mem_cons_of_mem _ (List.mem_cons_of_mem _ (List.mem_cons_of_mem _ (List.mem_cons_of_mem _ (List.mem_cons_of_mem _ (List.mem_cons_of_mem _ (List.mem_cons_of_mem _ (List.mem_cons_of_mem _ (List.mem_cons_of_mem _ (List.mem_cons_of_mem _ (List.mem_cons_of_mem _ (List.mem_cons_of_mem _ (List.mem_cons_of_mem _ (List.mem_cons_of_mem _ (List.mem_cons_of_mem _ (List.mem_cons_of_mem _ (List.mem_cons_of_mem _ (List.mem_cons_of_mem _ (List.mem_cons_of_mem _ (List.mem_cons_of_mem _ (List.mem_cons_of_mem _ (List.mem_cons_of_mem _ (List.mem_cons_of_mem _ (List.mem_cons_of_mem _ (List.mem_cons_of_mem _ (List.mem_cons_of_mem _ (List.mem_cons_of_mem _ (List.mem_cons_of_mem _ (List.mem_cons_of_mem _ (List.mem_cons_of_mem _ (List.mem_cons_of_mem _ (List.mem_cons_of_mem _ (List.mem_cons_of_mem _ List.mem_cons_self)))))))))))))))))))))))))))))))))))))))))
  have i22 := isH_blt (gs := gs) (h (.blt "LookupError") ((List.mem_cons_of_mem _ (List.mem_cons_of_mem _ (List.mem_cons_of_mem _ (List.mem_cons_of_mem _ (List.mem_cons_of_mem _ (List.mem_cons_of_mem _ (List.mem_cons_of_mem _ (List.mem_cons_of_mem _ (List.mem_cons_of_mem _ (List.mem_cons_of_mem _ (List.mem_cons_of_mem _ (List.mem_cons_of_mem _ (List.mem_cons_of_mem _ (List.mem_cons_of_mem _ (List.mem_cons_of_mem _ (List.mem_cons_of_mem _ (List.mem_cons_of_mem _ (List.mem_cons_of_mem _ (List.mem_cons_of_mem _ (List.mem_cons_of_mem _ (List.mem_cons_of_mem _ (List.mem_cons_of_mem _ (List.mem_cons_of_mem _ (List.mem_cons_of_mem _ (List.mem_cons_of_mem _ (List.mem_cons_of_mem _ (List.mem_cons_of_mem _ (List.mem_cons_of_mem _ (List.mem_cons_of_mem _ (List.mem_cons_of_mem _ (List.mem_cons_of_mem _ (List.mem_cons_of_mem _ (List.mem_cons_of_mem _ (List.mem_cons_of_mem _ (List.mem_cons_of_mem _ (List.mem_cons_of_mem _ (List.mem_cons_of_mem _ (List.mem_cons_of_mem _ (List.mem_cons_of_mem _ (List.mem_cons_of_mem _ List.mem_cons_self))))))))))))))))))))))))))))))))))))))))))
  have i23 := isH_blt (gs := gs) (h (.blt "ArithmeticError") ((List.mem_cons_of_mem _ (List.mem_cons_of_mem _ (List.mem_cons_of_mem _ (List.mem_cons_of_mem _ (List.mem_cons_of_mem _ (List.mem_cons_of_mem _ (List.mem_cons_of_mem _ (List.mem_cons_of_mem _ (List.mem_cons_of_mem _ (List.mem_cons_of_mem _ (List.mem_cons_of_mem _ (List.mem_cons_of_mem _ (List.mem_cons_of_mem _ (List.mem_cons_of_mem _ (List.mem_cons_of_mem _ (List.mem_cons_of_mem _ (List.mem_cons_of_mem _ (List.mem_cons_of_mem _ (List.mem_cons_of_mem _ (List.mem_cons_of_mem _ (List.mem_cons_of_mem _ (List.mem_cons_of_mem _ (List.mem_cons_of_mem _ (List.mem_cons_of_mem _ (List.mem_cons_of_mem _ (List.mem_cons_of_mem _ (List.mem_cons_of_mem _ (List.mem_cons_of_mem _ (List.mem_cons_of_mem _ (List.mem_cons_of_mem _ (List.mem_cons_of_mem _ (List.mem_cons_of_mem _ (List.mem_cons_of_mem _ (List.mem_cons_of_mem _ (List.mem_cons_of_mem _ (List.mem_cons_of_mem _ (List.mem_cons_of_mem _ (List.mem_cons_of_mem _ (List.mem_cons_of_mem _ (List.mem_cons_of_mem _ (List.mem_cons_of_mem _ List.mem_cons_self)))))))))))))))))))))))))))))))))))))))))))
  have lc := fun x0 x1 => lc_words (f := f) (x0 := x0) (x1 := x1) S24 (by decide)
  have e1 := first_words_ok (gs := gs) h
  have hn : (wsH f F18).length + (wsH f S24).length ≤ 1000 := by have := wsH_len f F18; have := wsH_len f S24; have : F18.length = 18 := rfl; have : S24.length = 24 := rfl; omega
  generalize wsH f F18 = V at e1 hn ⊢
  generalize wsH f S24 = W at lc hn ⊢
  simp only [S24, pw, List.map_cons, List.map_nil] at lc
  have c1 : (V.map T.str).length + (W.map T.str).length ≤ 16777216 := by rw [List.length_map, List.length_map]; omega
  rw [List.map_append]
  push_cast [d_q_words, m_q_words, lc, e1, c1, i0, i1, i2, i3, i4, i5, i6, i7, i8, i9, i10, i11, i12, i13, i14, i15, i16, i17, i18, i19, i20, i21, i22, i23]
/-- the words of an error of the class C -/
def okW (C w : Str) (ab : List Str) : Bool := match TBH.lookup C with
  | some up => decide (wsH (fun c => decide (c ∈ up)) F18 ++ wsH (fun c => decide (c ∈ up)) S24 = w :: ab)
  | none => false
theorem w_ok {C w : Str} {ab : List Str} {gs : List (Str × T)} (h : okW C w ab = true) : d_q_words [.err C gs] = .ok (.own (.lst ((w :: ab).map T.str))) none := by
  unfold okW at h
  split at h
  · next up hu =>
    have := words_ok (C := C) (gs := gs) (f := fun c => decide (c ∈ up)) fun c hc => by
      unfold tabH
      rw [hu]
      exact tabAt_map (f := fun c => decide (c ∈ up)) hc
    rw [of_decide_eq_true h] at this
    exact this
  · cases h
def abIn : List Str := [(Str.ofString "InputError"), (Str.ofString "ValueError")]
def abSt : List Str := [(Str.ofString "StateError"), (Str.ofString "LookupError")]
def abLi : List Str := [(Str.ofString "LimitError"), (Str.ofString "ArithmeticError")]
end K24
set_option Elab.async false
set_option linter.all false
set_option maxRecDepth 100000
set_option maxHeartbeats 8000000
set_option exponentiation.threshold 3000
namespace K24
open PySem PySem.Spec PyProof.Rows L2 GX MX Pg
local macro_rules | `(tactic| push_cast [$a,*]) => `(tactic| simp only [go_op, kOp_ok, kOp2_ok, go_un, kUn_ok, go_b, kB_ok, go_tV, kTV_ok, go_tR, kTR_ok, go_tA, kA_t, kA_f, go_tO, kO_t, kO_f, go_tN, kN_ok, go_eA, kEA_t, kEA_f, go_eO, kEO_t, kEO_f, go_eN, kEN_ok, go_eIf, kIf_t, kIf_f, go_aC, kAC_ok, kAC2_ok, go_aN, go_eL, kL_ok, go_eT, kTu_ok, go_mkL, go_mkT, kFL_ok, kFT_ok, fx_val, fx_own, fx_sl, kFxS_fz, kFxS_ow, fxA_nil, fxA_cons, kFA_ok, kFA2_ok, rd_val, rd_own, rd_sl, kRdS_fz, kRdS_ow, kRdS_io, fix_lst, fix_ins, rdA_nil, rdA_cons, kRA_ok, kRA2_ok, go_eV, kV_fz, kV_ow, kV_io, go_eC, ap1_ok, ap2_ok, opt_ok, go_eSl, kSl_ok, kSl2_ok, kSl3_ok, go_pN, go_pS, kPS_ok, isI', slT_lst, slT_lsk, slT_tup, go_eCh, kCh_ok, kCh2_ok, kCh3_t, kCh3_f, go_call, kCall_ok, kCall2_ok, kCall3_val, kCall3_own, kCall3_ex, go_callI, kCI_ok, kCI2_ok, kCI3_ok, kCI4_val, kCI4_own, kCI4_ex, rep_ow, rep_io, go_ownAt, kOA_ow, kOA_io, go_lstAt, kLA_ow, kLA_io, go_app, kAp_ok, kAp2_ok, kAp3_ok, kAp4_ok, go_seq, kSeq_nx, kSeq_rt, kSeq_ex, kSeq_bk, kSeq_ct, go_set, kSt_ok, kSt_ex, go_ret, go_retN, go_nx, go_x, go_kX, go_if, kSIf_t, kSIf_f, kSIf_ex, out_val, out_own, out_sl, kOut_fz, kOut_ow, go_put, kPut_ok, cPut_f, putV_own, putV_val, putV_sl, kPutF_ok, go_gN, kGN_ok, cGN_f, go_gT, cGT_ok, go_gn, go_gc, kGc_ok, go_tup, go_kTup, kTup2_ok, kNx_ok, go_par, kPar_ok, kPar2_ok, kPar3_ok, go_aug, kAug_ok, kAug2_ok, kAug3_ok, go_for, kFor_ok, go_iF, kIF_ok, kIF2_ok, go_iA, kIA_ok, kIA2_ok, seqOf_lst, seqOf_lsk, seqOf_tup, go_rg1, go_rg2, go_rg3, go_enA, go_ziA, go_lc, kLc_ok, cLc_t, go_putIx, go_kPI, kPI2_ok, kPI3_ok, kPI4_ok, kPI5_ok, kPI6_ok, kPI7_ok, go_runD, go_runI, kD_nx, kD_val, kD_own, go_kNo, go_io0, oIx_lst, oIx_lsk, oIx_tup, oNeg_int, isB_bl, go_lc1, kL1_ok, kL2_t, kL2_f, kL3_ok, kL4_ok, kL5_ok, go_tY, wp_nil, wp_cons, kW_ok, kW2_fz, kW2_no, kW2_ow, stl_val, stl_own, stl_sl, oI0_int, oI, bLen, bI1, bI2, bInt, bTup, bLst, bIsi, tyN, revT, oCat, oCatT, MX.eqT, oEq, oNe, MX.isNon, oIsN, oNotN, trT, noAt, cLst, cTup, cAp, cGT_ok, fzs, isIo_no, isIo_fz, isIo_ow, isIo_io, List.getElem?_cons_zero, List.getElem?_cons_succ, List.set_cons_zero, List.set_cons_succ, List.length_cons, List.length_nil, List.replicate, List.cons_append, List.nil_append, List.all_cons, List.all_nil, ↓reduceIte, Bool.and_true, Bool.true_and, Bool.false_eq_true, Bool.not_true, Bool.not_false, decide_true, decide_false, Nat.zero_add, Nat.add_zero, Nat.sub_self, Nat.reduceAdd, Nat.reduceLeDiff, Nat.reduceSub, Nat.le_refl, Nat.zero_le, Nat.succ_eq_add_one, reduceCtorEq, CMul, CDiv, Int.reduceNeg, Int.reducePow, Int.reduceLT, Int.reduceLE, Int.reduceMul, Int.reduceAdd, Int.reduceSub, Int.reduceToNat, or_true, true_or, and_true, true_and, and_self, cpow10, cpow2, cpow5, ix30, ix31, ix32, at30, at31, at32, at20, at21, at40, at41, at42, at43, Int.reduceMod, Nat.reduceLT, cst0, cst1, cst2, cst3, cst4, cst5, cst6, cst7, noX_ok, noX_ex, go_xD, go_xI, kE_nx, kE_val, kE_own, kE_ex, go_callK, kCK_ok, kCK2_ok, kCK3_ok, kCK4_ok, cCK, callR_val, callR_own, callR_ex, byK1, byK01, byK10, byK012, go_callIO, kIO_ok, kIO2_val, kIO2_own, kIO2_ex, go_lam, kLam_ok, kLam_ex, kLam2_ok, kLam3_val, kLam3_own, go_rs, kRs_ok, kRs2_ok, go_xf, kXf_ok, kXf2_ok, kXf3_ok, go_rv1, kRv_ok, go_iW, kWi_ok, kWi2_ok, Int.reduceEq, go_parE, kPG_ok, kPF_ok, kPE_ok, kPH_ok, go_edc, go_lrg, kLR_ok, atz0, atz1, atz2, atz3, atz4, fix_dct, lkp, lkp0, putT_nil, putT_cons, kOF_ok, go_fldS, kFS_ok, kFS_ex, kFS2_ok, kFS3_ok, go_insAt, kIAt_ow, kIAt_io, go_own2, kO1_ok, kO2_ok, kO3_ok, kO4_ok, kOwnX_ok, refR_obj, refR_own, refR_ex, blR_ok, kQ_f, kQ_t, kOwnQ_ok, isO_obj, isO_tup, isO_str, isO_int, isO_bl, isO_non, isO_lst, isO_edc, isO_dct, go_isO, kIsO_ok, kOwnI_ok, go_tOwn, kTO_ok, kTO2_ok, kTO3_ok, go_notO, go_make, kMk_ok, kMk2_ok, kMk3_ok, kMk3_ex, dS_ok, go_aStar, kSA_ok, kSA2_ok, kSA3_ok, kSA4_nil, go_meth, kMe_ok, kMe2_ok, kMe3_ok, go_dc0, oDG_i, oDG_s, oDI_i, oDN_i, go_dput, kDP_ok, kDP2_ok, kDP3_ok, kDP4_ok, kDP5_ok, kDP6_ok, keyO_int, keyO_str, go_dctAt, kDA_ow, kDA_io, go_dc, kDc_ok, cDc_t, go_dc1, kD1_ok, kD2_t, kD2_f, kD3_ok, kD4_ok, kD5_ok, kD6_ok, kD7_ok, go_iKs, go_lcD, kLD_ok, kLD2_ok, kLD3_ok, go_count, kCt_ok, kCt2_ok, kCt3_ok, go_par2, kP2_ok, go_par3, kP3c_ok, kP3_ok, kP3a_ok, kP3b_ok, go_lam2, kLm2_ok, kLm2_ex, kLm3_ok, kLm4_ok, kLm5_val, kOp_ex, kUn_ex, kB_ex, kAC_ex, go_bTs, kBT_ok, go_bIs, kBI_ok, kBI2_ok, bBool_int, bBool_bl, bStrI_ok, fixA_vals, blTs_map, oFld_ok, List.mem_cons, List.not_mem_nil, or_false, List.mem_singleton, inT_iT, go_m0, kM0_ok, kM0b_ok, kVal_ok, go_m1, kM1_ok, kM1b_ok, kM1c_ok, kM1d_ok, go_part, go_split, kSp_ok, kSpb_ok, kSpc_ok, kSpd_ok, oIxS_ok, bGcd_ok, bDivm_ok, bIntS_ok, go_slS, kSS_ok, kSS2_ok, kSS3_ok, slS_ok, go_sg, kSg_ok, kSg2_ok, fmtT_str, fmtT_int, go_js0, go_js, kJs_ok, kJs2_ok, go_ch3, kC3_ok, kC3b_ok, kC3c_f, kC3c_t, kC3d_ok, kC3e_f, kC3e_t, kC3f_ok, go_try, kTry_ex, kTry_nx, kTry_rt, go_makeL, go_cmeth, kCm_ok, kCm2_ok, kCm3_ok, kFR_val, kFR_own, kFR_ex, go_strO, kSt1_ok, kStO_ok, kStS_ok, go_reprO, kRp_ok, kRp2_ok, kRp3_ok, go_putTup, kPt1_ok, kPt_ok, kPt2_ok, kPt3_ok, oNotB_ok, go_ev2, kEv_ok, kEv2_ok, kEv3_ok, go_pop, kPop_ok, kPop2_ok, go_smeth, kSM_ok, kOwnL_ok, refB_bl, refB_ex, go_boolO, kBO_ok, kBO2_ok, kBO3_ok, bBoolT_tup, bBoolT_int, bBoolT_bl, oInW_ok, List.append_nil, ziB_lst, ziB_tup, rgA_ok, go_join, kJn_ok, kJn2_ok, kJn3_ok, kJn4_lst, kJn4_tup, strsT_map, go_callV, kCV_ok, go_callO, kCO_ok, kCO2_ok, go_asg2, go_kAs2, kAs3_ok, kAs4_ok, go_tryM, kTM_nx, kTM_rt, go_get2, kG2_ok, kGd2_ok, kG3_ok, kG4_ok, kG5_ok, kG6_ok, keyO_s, ziX_sl, ziX_ls, ziX_ll, ziX_tt, enX_str, enX_lst, enX_tup, revTT_ok, bStrU_str, go_lc2, kLc2_ok, cLc2_t, go_parL, kPL_ok, go_par3L, kPL3_ok, go_rsB, kRs3_ok, kRs4_ok, $a,*])
def rowT (t : T) (p : Str × List (Str × T)) : T := .tup [.str p.1, .err p.1 p.2, t, t]
theorem mkp : (Str.ofString "marks" = Str.ofString "place") = False := eq_false (by decide)
def numbersL (t : T) : List (Str × List (Str × T)) := [((Str.ofString "InvalidNumber"), [((Str.ofString "number"), t)]), ((Str.ofString "InvalidRatio"), [((Str.ofString "value"), t)]), ((Str.ofString "InvalidShare"), [((Str.ofString "value"), t)]), ((Str.ofString "InvalidName"), [((Str.ofString "name"), t)]), ((Str.ofString "InvalidState"), [((Str.ofString "state"), t)]), ((Str.ofString "InvalidSize"), [((Str.ofString "value"), t)]), ((Str.ofString "InvalidMarked"), [((Str.ofString "value"), t)]), ((Str.ofString "InvalidModulus"), [((Str.ofString "value"), t)]), ((Str.ofString "InvalidTables"), [((Str.ofString "name"), t)]), ((Str.ofString "InvalidText"), [((Str.ofString "text"), t)]), ((Str.ofString "InvalidCommand"), [((Str.ofString "command"), t)])]
theorem numbers_ok (t : T) : d_q_numbers [t] = .ok (.own (.lst ((numbersL t).map (rowT t)))) none := by
  unfold numbersL
  simp only [rowT, List.map_cons, List.map_nil]
  push_cast [-oIx_lst, -oIx_tup, d_q_numbers, m_q_numbers, go_ho, kHo_ok, kHo2_ok, go_hd, kHd_ok, kHd2_ok, go_he, kHe_ok, kHe2_ok, go_hold0, go_fh, kFh_ok, kFh2_ok, kFh3_ok, lk1, go_dcK1, mkp]
def placesL (t : T) : List (Str × List (Str × T)) := [((Str.ofString "InvalidRows"), [((Str.ofString "index"), t)]), ((Str.ofString "InvalidLimits"), [((Str.ofString "index"), t)]), ((Str.ofString "InvalidLooks"), [((Str.ofString "index"), t)]), ((Str.ofString "InvalidMarks"), [((Str.ofString "index"), t)]), ((Str.ofString "InvalidLines"), [((Str.ofString "index"), t)]), ((Str.ofString "InvalidSeries"), [((Str.ofString "index"), t)]), ((Str.ofString "InvalidKeys"), [((Str.ofString "index"), t)]), ((Str.ofString "InvalidLayers"), [((Str.ofString "index"), t)]), ((Str.ofString "InvalidDeeds"), [((Str.ofString "index"), t)])]
theorem places_ok (t : T) : d_q_places [t] = .ok (.own (.lst ((placesL t).map (rowT t)))) none := by
  unfold placesL
  simp only [rowT, List.map_cons, List.map_nil]
  push_cast [-oIx_lst, -oIx_tup, d_q_places, m_q_places, go_ho, kHo_ok, kHo2_ok, go_hd, kHd_ok, kHd2_ok, go_he, kHe_ok, kHe2_ok, go_hold0, go_fh, kFh_ok, kFh2_ok, kFh3_ok, lk1, go_dcK1, mkp]
def othersL (t : T) : List (Str × List (Str × T)) := [((Str.ofString "NotAPlan"), [((Str.ofString "value"), t)]), ((Str.ofString "NotClaims"), [((Str.ofString "value"), t)]), ((Str.ofString "NotFlipped"), [((Str.ofString "found"), t)]), ((Str.ofString "NotATable"), [((Str.ofString "value"), t)]), ((Str.ofString "NotASample"), [((Str.ofString "value"), t)]), ((Str.ofString "NotRising"), [(Str.ofString "place", .lst [t]), (Str.ofString "marks", t)]), ((Str.ofString "NotRising"), [(Str.ofString "place", t), (Str.ofString "marks", .tup [t, .int 1])])]
theorem others_ok (t : T) : d_q_others [t] = .ok (.own (.lst ((othersL t).map (rowT t)))) none := by
  have ix0 : oIx (.lst [t]) (.int 0) = some (.val t) := rfl
  have ix1 : oIx (.tup [t, .int 1]) (.int 0) = some (.val t) := rfl
  unfold othersL
  simp only [rowT, List.map_cons, List.map_nil]
  push_cast [-oIx_lst, -oIx_tup, d_q_others, m_q_others, go_ho, kHo_ok, kHo2_ok, go_hd, kHd_ok, kHd2_ok, go_he, kHe_ok, kHe2_ok, go_hold0, go_fh, kFh_ok, kFh2_ok, kFh3_ok, lk1, go_dcK1, mkp, ix0, ix1]
def statesL (t : T) : List (Str × List (Str × T)) := [((Str.ofString "UnknownName"), [((Str.ofString "name"), t)]), ((Str.ofString "UnknownRow"), [((Str.ofString "key"), t)]), ((Str.ofString "KnownRow"), [((Str.ofString "key"), t)]), ((Str.ofString "SameRank"), [((Str.ofString "rank"), t)]), ((Str.ofString "Contradiction"), [((Str.ofString "key"), t)]), ((Str.ofString "NotHeld"), [((Str.ofString "found"), t)]), ((Str.ofString "Busy"), []), ((Str.ofString "NothingToUndo"), [])]
theorem states_ok (t : T) : d_q_states [t] = .ok (.own (.lst ((statesL t).map (rowT t)))) none := by
  unfold statesL
  simp only [rowT, List.map_cons, List.map_nil]
  push_cast [-oIx_lst, -oIx_tup, d_q_states, m_q_states, go_ho, kHo_ok, kHo2_ok, go_hd, kHd_ok, kHd2_ok, go_he, kHe_ok, kHe2_ok, go_hold0, go_fh, kFh_ok, kFh2_ok, kFh3_ok, lk1, go_dcK1, mkp]
def limitsL (t : T) : List (Str × List (Str × T)) := [((Str.ofString "TooFew"), [((Str.ofString "looked"), t)]), ((Str.ofString "TooFine"), [((Str.ofString "found"), t)])]
theorem limits_ok (t : T) : d_q_limits [t] = .ok (.own (.lst ((limitsL t).map (rowT t)))) none := by
  unfold limitsL
  simp only [rowT, List.map_cons, List.map_nil]
  push_cast [-oIx_lst, -oIx_tup, d_q_limits, m_q_limits, go_ho, kHo_ok, kHo2_ok, go_hd, kHd_ok, kHd2_ok, go_he, kHe_ok, kHe2_ok, go_hold0, go_fh, kFh_ok, kFh2_ok, kFh3_ok, lk1, go_dcK1, mkp]
def nmIn : List String := ["InvalidNumber", "InvalidRatio", "InvalidShare", "InvalidName", "InvalidState", "InvalidSize", "InvalidMarked", "InvalidModulus", "InvalidTables", "InvalidText", "InvalidCommand", "InvalidRows", "InvalidLimits", "InvalidLooks", "InvalidMarks", "InvalidLines", "InvalidSeries", "InvalidKeys", "InvalidLayers", "InvalidDeeds", "NotAPlan", "NotClaims", "NotFlipped", "NotATable", "NotASample", "NotRising", "NotRising"]
theorem oknIn : ∀ s ∈ nmIn, okW (Str.ofString s) (Str.ofString s) abIn = true := by decide +kernel
theorem rowsIn (t : T) : ∀ p ∈ numbersL t ++ placesL t ++ othersL t, (∃ s, p.1 = Str.ofString s) ∧ okW p.1 p.1 abIn = true := fun p hp => by
  have h : p.1 ∈ (numbersL t ++ placesL t ++ othersL t).map (·.1) := List.mem_map.mpr ⟨p, hp, rfl⟩
  have h : p.1 ∈ nmIn.map Str.ofString := h
  obtain ⟨s, hs, e⟩ := List.mem_map.mp h
  rw [← e]
  exact ⟨⟨s, rfl⟩, oknIn s hs⟩
def nmSt : List String := ["UnknownName", "UnknownRow", "KnownRow", "SameRank", "Contradiction", "NotHeld", "Busy", "NothingToUndo"]
theorem oknSt : ∀ s ∈ nmSt, okW (Str.ofString s) (Str.ofString s) abSt = true := by decide +kernel
theorem rowsSt (t : T) : ∀ p ∈ statesL t, (∃ s, p.1 = Str.ofString s) ∧ okW p.1 p.1 abSt = true := fun p hp => by
  have h : p.1 ∈ (statesL t).map (·.1) := List.mem_map.mpr ⟨p, hp, rfl⟩
  have h : p.1 ∈ nmSt.map Str.ofString := h
  obtain ⟨s, hs, e⟩ := List.mem_map.mp h
  rw [← e]
  exact ⟨⟨s, rfl⟩, oknSt s hs⟩
def nmLi : List String := ["TooFew", "TooFine"]
theorem oknLi : ∀ s ∈ nmLi, okW (Str.ofString s) (Str.ofString s) abLi = true := by decide +kernel
theorem rowsLi (t : T) : ∀ p ∈ limitsL t, (∃ s, p.1 = Str.ofString s) ∧ okW p.1 p.1 abLi = true := fun p hp => by
  have h : p.1 ∈ (limitsL t).map (·.1) := List.mem_map.mpr ⟨p, hp, rfl⟩
  have h : p.1 ∈ nmLi.map Str.ofString := h
  obtain ⟨s, hs, e⟩ := List.mem_map.mp h
  rw [← e]
  exact ⟨⟨s, rfl⟩, oknLi s hs⟩
end K24
set_option Elab.async false
set_option linter.all false
set_option maxRecDepth 100000
set_option maxHeartbeats 8000000
set_option exponentiation.threshold 3000
namespace K24
open PySem PySem.Spec PyProof.Rows L2 GX MX Pg
local macro_rules | `(tactic| push_cast [$a,*]) => `(tactic| simp only [go_op, kOp_ok, kOp2_ok, go_un, kUn_ok, go_b, kB_ok, go_tV, kTV_ok, go_tR, kTR_ok, go_tA, kA_t, kA_f, go_tO, kO_t, kO_f, go_tN, kN_ok, go_eA, kEA_t, kEA_f, go_eO, kEO_t, kEO_f, go_eN, kEN_ok, go_eIf, kIf_t, kIf_f, go_aC, kAC_ok, kAC2_ok, go_aN, go_eL, kL_ok, go_eT, kTu_ok, go_mkL, go_mkT, kFL_ok, kFT_ok, fx_val, fx_own, fx_sl, kFxS_fz, kFxS_ow, fxA_nil, fxA_cons, kFA_ok, kFA2_ok, rd_val, rd_own, rd_sl, kRdS_fz, kRdS_ow, kRdS_io, fix_lst, fix_ins, rdA_nil, rdA_cons, kRA_ok, kRA2_ok, go_eV, kV_fz, kV_ow, kV_io, go_eC, ap1_ok, ap2_ok, opt_ok, go_eSl, kSl_ok, kSl2_ok, kSl3_ok, go_pN, go_pS, kPS_ok, isI', slT_lst, slT_lsk, slT_tup, go_eCh, kCh_ok, kCh2_ok, kCh3_t, kCh3_f, go_call, kCall_ok, kCall2_ok, kCall3_val, kCall3_own, kCall3_ex, go_callI, kCI_ok, kCI2_ok, kCI3_ok, kCI4_val, kCI4_own, kCI4_ex, rep_ow, rep_io, go_ownAt, kOA_ow, kOA_io, go_lstAt, kLA_ow, kLA_io, go_app, kAp_ok, kAp2_ok, kAp3_ok, kAp4_ok, go_seq, kSeq_nx, kSeq_rt, kSeq_ex, kSeq_bk, kSeq_ct, go_set, kSt_ok, kSt_ex, go_ret, go_retN, go_nx, go_x, go_kX, go_if, kSIf_t, kSIf_f, kSIf_ex, out_val, out_own, out_sl, kOut_fz, kOut_ow, go_put, kPut_ok, cPut_f, putV_own, putV_val, putV_sl, kPutF_ok, go_gN, kGN_ok, cGN_f, go_gT, cGT_ok, go_gn, go_gc, kGc_ok, go_tup, go_kTup, kTup2_ok, kNx_ok, go_par, kPar_ok, kPar2_ok, kPar3_ok, go_aug, kAug_ok, kAug2_ok, kAug3_ok, go_for, kFor_ok, go_iF, kIF_ok, kIF2_ok, go_iA, kIA_ok, kIA2_ok, seqOf_lst, seqOf_lsk, seqOf_tup, go_rg1, go_rg2, go_rg3, go_enA, go_ziA, go_lc, kLc_ok, cLc_t, go_putIx, go_kPI, kPI2_ok, kPI3_ok, kPI4_ok, kPI5_ok, kPI6_ok, kPI7_ok, go_runD, go_runI, kD_nx, kD_val, kD_own, go_kNo, go_io0, oIx_lst, oIx_lsk, oIx_tup, oNeg_int, isB_bl, go_lc1, kL1_ok, kL2_t, kL2_f, kL3_ok, kL4_ok, kL5_ok, go_tY, wp_nil, wp_cons, kW_ok, kW2_fz, kW2_no, kW2_ow, stl_val, stl_own, stl_sl, oI0_int, oI, bLen, bI1, bI2, bInt, bTup, bLst, bIsi, tyN, revT, oCat, oCatT, MX.eqT, oEq, oNe, MX.isNon, oIsN, oNotN, trT, noAt, cLst, cTup, cAp, cGT_ok, fzs, isIo_no, isIo_fz, isIo_ow, isIo_io, List.getElem?_cons_zero, List.getElem?_cons_succ, List.set_cons_zero, List.set_cons_succ, List.length_cons, List.length_nil, List.replicate, List.cons_append, List.nil_append, List.all_cons, List.all_nil, ↓reduceIte, Bool.and_true, Bool.true_and, Bool.false_eq_true, Bool.not_true, Bool.not_false, decide_true, decide_false, Nat.zero_add, Nat.add_zero, Nat.sub_self, Nat.reduceAdd, Nat.reduceLeDiff, Nat.reduceSub, Nat.le_refl, Nat.zero_le, Nat.succ_eq_add_one, reduceCtorEq, CMul, CDiv, Int.reduceNeg, Int.reducePow, Int.reduceLT, Int.reduceLE, Int.reduceMul, Int.reduceAdd, Int.reduceSub, Int.reduceToNat, or_true, true_or, and_true, true_and, and_self, cpow10, cpow2, cpow5, ix30, ix31, ix32, at30, at31, at32, at20, at21, at40, at41, at42, at43, Int.reduceMod, Nat.reduceLT, cst0, cst1, cst2, cst3, cst4, cst5, cst6, cst7, noX_ok, noX_ex, go_xD, go_xI, kE_nx, kE_val, kE_own, kE_ex, go_callK, kCK_ok, kCK2_ok, kCK3_ok, kCK4_ok, cCK, callR_val, callR_own, callR_ex, byK1, byK01, byK10, byK012, go_callIO, kIO_ok, kIO2_val, kIO2_own, kIO2_ex, go_lam, kLam_ok, kLam_ex, kLam2_ok, kLam3_val, kLam3_own, go_rs, kRs_ok, kRs2_ok, go_xf, kXf_ok, kXf2_ok, kXf3_ok, go_rv1, kRv_ok, go_iW, kWi_ok, kWi2_ok, Int.reduceEq, go_parE, kPG_ok, kPF_ok, kPE_ok, kPH_ok, go_edc, go_lrg, kLR_ok, atz0, atz1, atz2, atz3, atz4, fix_dct, lkp, lkp0, putT_nil, putT_cons, kOF_ok, go_fldS, kFS_ok, kFS_ex, kFS2_ok, kFS3_ok, go_insAt, kIAt_ow, kIAt_io, go_own2, kO1_ok, kO2_ok, kO3_ok, kO4_ok, kOwnX_ok, refR_obj, refR_own, refR_ex, blR_ok, kQ_f, kQ_t, kOwnQ_ok, isO_obj, isO_tup, isO_str, isO_int, isO_bl, isO_non, isO_lst, isO_edc, isO_dct, go_isO, kIsO_ok, kOwnI_ok, go_tOwn, kTO_ok, kTO2_ok, kTO3_ok, go_notO, go_make, kMk_ok, kMk2_ok, kMk3_ok, kMk3_ex, dS_ok, go_aStar, kSA_ok, kSA2_ok, kSA3_ok, kSA4_nil, go_meth, kMe_ok, kMe2_ok, kMe3_ok, go_dc0, oDG_i, oDG_s, oDI_i, oDN_i, go_dput, kDP_ok, kDP2_ok, kDP3_ok, kDP4_ok, kDP5_ok, kDP6_ok, keyO_int, keyO_str, go_dctAt, kDA_ow, kDA_io, go_dc, kDc_ok, cDc_t, go_dc1, kD1_ok, kD2_t, kD2_f, kD3_ok, kD4_ok, kD5_ok, kD6_ok, kD7_ok, go_iKs, go_lcD, kLD_ok, kLD2_ok, kLD3_ok, go_count, kCt_ok, kCt2_ok, kCt3_ok, go_par2, kP2_ok, go_par3, kP3c_ok, kP3_ok, kP3a_ok, kP3b_ok, go_lam2, kLm2_ok, kLm2_ex, kLm3_ok, kLm4_ok, kLm5_val, kOp_ex, kUn_ex, kB_ex, kAC_ex, go_bTs, kBT_ok, go_bIs, kBI_ok, kBI2_ok, bBool_int, bBool_bl, bStrI_ok, fixA_vals, blTs_map, oFld_ok, List.mem_cons, List.not_mem_nil, or_false, List.mem_singleton, inT_iT, go_m0, kM0_ok, kM0b_ok, kVal_ok, go_m1, kM1_ok, kM1b_ok, kM1c_ok, kM1d_ok, go_part, go_split, kSp_ok, kSpb_ok, kSpc_ok, kSpd_ok, oIxS_ok, bGcd_ok, bDivm_ok, bIntS_ok, go_slS, kSS_ok, kSS2_ok, kSS3_ok, slS_ok, go_sg, kSg_ok, kSg2_ok, fmtT_str, fmtT_int, go_js0, go_js, kJs_ok, kJs2_ok, go_ch3, kC3_ok, kC3b_ok, kC3c_f, kC3c_t, kC3d_ok, kC3e_f, kC3e_t, kC3f_ok, go_try, kTry_ex, kTry_nx, kTry_rt, go_makeL, go_cmeth, kCm_ok, kCm2_ok, kCm3_ok, kFR_val, kFR_own, kFR_ex, go_strO, kSt1_ok, kStO_ok, kStS_ok, go_reprO, kRp_ok, kRp2_ok, kRp3_ok, go_putTup, kPt1_ok, kPt_ok, kPt2_ok, kPt3_ok, oNotB_ok, go_ev2, kEv_ok, kEv2_ok, kEv3_ok, go_pop, kPop_ok, kPop2_ok, go_smeth, kSM_ok, kOwnL_ok, refB_bl, refB_ex, go_boolO, kBO_ok, kBO2_ok, kBO3_ok, bBoolT_tup, bBoolT_int, bBoolT_bl, oInW_ok, List.append_nil, ziB_lst, ziB_tup, rgA_ok, go_join, kJn_ok, kJn2_ok, kJn3_ok, kJn4_lst, kJn4_tup, strsT_map, go_callV, kCV_ok, go_callO, kCO_ok, kCO2_ok, go_asg2, go_kAs2, kAs3_ok, kAs4_ok, go_tryM, kTM_nx, kTM_rt, go_get2, kG2_ok, kGd2_ok, kG3_ok, kG4_ok, kG5_ok, kG6_ok, keyO_s, ziX_sl, ziX_ls, ziX_ll, ziX_tt, enX_str, enX_lst, enX_tup, revTT_ok, bStrU_str, go_lc2, kLc2_ok, cLc2_t, go_parL, kPL_ok, go_par3L, kPL3_ok, go_rsB, kRs3_ok, kRs4_ok, $a,*])
noncomputable def rpO : T → Option Str := rpT (Str.ofString "Ratio") d_Ratio___repr__
def tS (l : List Str) : T := .lst (l.map T.str)
theorem toD_tS (l : List Str) : toD (tS l) = some (.list (l.map PyData.str)) := by
  have : toDs (l.map T.str) = some (l.map PyData.str) := toDs_map fun x _ => by simp only [toD]
  unfold tS
  simp only [toD, this]
theorem ne_tS {l : List Str} (h : ∀ x ∈ l, Sml x) : oNeD (tS l) (tS l) = some (.val (.bl false)) := by
  have s : Sd 1 (.list (l.map PyData.str)) := sd_lst (dp := 0) fun d hd => by
    obtain ⟨x, hx, rfl⟩ := List.mem_map.mp hd
    exact sd_str (h x hx)
  rw [oNeD_ok (toD_tS l) (toD_tS l) s s]
  have := eqd_list eqd_str l l
  rw [this, decide_eq_true rfl]
  rfl
theorem all_loop {ab : List Str} {t : T} {z : Str} {x0 : SV} (hz : rpO t = some z) (sz : Sml z) (ha : ∀ x ∈ ab, Sml x) (hl : ab.length ≤ 100) : ∀ (rs : List (Str × List (Str × T))) (y3 y4 y5 y6 : SV), y3.isIo = false → y4.isIo = false → y5.isIo = false → y6.isIo = false → (∀ p ∈ rs, (∃ s, p.1 = Str.ofString s) ∧ okW p.1 p.1 ab = true) →
    ∃ z3 z4 z5 z6, forL (gT 4 (gc (gN 3) (gc (gN 4) (gc (gN 5) (gc (gN 6) gn))))) m_q_all_right_b1 (rs.map (rowT t)) [x0, .fz (tS ab), .fz t, y3, y4, y5, y6] = .nx [x0, .fz (tS ab), .fz t, z3, z4, z5, z6]
  | [], y3, y4, y5, y6, _, _, _, _, _ => ⟨y3, y4, y5, y6, rfl⟩
  | p :: rs, y3, y4, y5, y6, h3, h4, h5, h6, hp => by
    obtain ⟨C, gs⟩ := p
    obtain ⟨⟨s, es⟩, hw⟩ := hp _ List.mem_cons_self
    obtain ⟨z3, z4, z5, z6, e⟩ := all_loop (x0 := x0) hz sz ha hl rs (.fz (.str C)) (.fz (.err C gs)) (.fz t) (.fz t) rfl rfl rfl rfl fun q hq => hp q (List.mem_cons_of_mem _ hq)
    refine ⟨z3, z4, z5, z6, ?_⟩
    have g : gT 4 (gc (gN 3) (gc (gN 4) (gc (gN 5) (gc (gN 6) gn)))) (rowT t (C, gs)) [x0, .fz (tS ab), .fz t, y3, y4, y5, y6] = some [x0, .fz (tS ab), .fz t, .fz (.str C), .fz (.err C gs), .fz t, .fz t] := by
      unfold rowT
      push_cast [h3, h4, h5, h6]
    have e1 := w_ok (gs := gs) hw
    have sC : ∀ x ∈ C :: ab, Sml x := fun x hx => by
      rcases List.mem_cons.mp hx with rfl | hx
      · rw [show x = Str.ofString s from es]
        exact sml_of s
      · exact ha x hx
    have n1 := ne_tS sC
    have n2 := ne_tS (l := [z, z]) fun x hx => by
      simp only [List.mem_cons, List.not_mem_nil, or_false, or_self] at hx
      rw [hx]
      exact sz
    have c1 : 1 + (List.map T.str ab).length ≤ 16777216 := by rw [List.length_map]; omega
    unfold rpO at hz
    have rp2 : oRep (.lst [.str z]) (.int 2) = some (.own (.lst [.str z, .str z])) := rfl
    have st : m_q_all_right_b1 [x0, .fz (tS ab), .fz t, .fz (.str C), .fz (.err C gs), .fz t, .fz t] = .nx [x0, .fz (tS ab), .fz t, .fz (.str C), .fz (.err C gs), .fz t, .fz t] := by
      unfold tS at n1 n2 ⊢
      simp only [List.map_cons, List.map_nil] at n1 n2 e1
      push_cast [m_q_all_right_b1, e1, hz, n1, n2, c1, rp2]
    rw [List.map_cons, forL_cons g st]
    exact e
theorem all_right_ok {ab : List Str} {t : T} {z : Str} (hz : rpO t = some z) (sz : Sml z) (ha : ∀ x ∈ ab, Sml x) (hl : ab.length ≤ 100) (rs : List (Str × List (Str × T))) (hp : ∀ p ∈ rs, (∃ s, p.1 = Str.ofString s) ∧ okW p.1 p.1 ab = true) :
    d_q_all_right [.lst (rs.map (rowT t)), tS ab, t] = .ok (.val (.bl true)) none := by
  obtain ⟨z3, z4, z5, z6, e⟩ := all_loop (x0 := .fz (.lst (rs.map (rowT t)))) hz sz ha hl rs .no .no .no .no rfl rfl rfl rfl hp
  push_cast [d_q_all_right, m_q_all_right, e]
end K24
set_option Elab.async false
set_option linter.all false
set_option maxRecDepth 100000
set_option maxHeartbeats 4000000
namespace TX
open PySem PySem.Builtin PySem.Builtin.Str TL L2
/-- the text of a whole number -/
abbrev S (n : Int) : Str := Str.ofString (toString n)
theorem tl_nat (n : Nat) : tl (S n) = numL n := tl_num n
theorem tl_neg {n : Int} (h : n < 0) : tl (S n) = 45 :: numL n.natAbs := by
  have e : toString n = "-" ++ toString ((n.natAbs : Nat) : Int) := by
    rw [PyProof.Rows.toString_neg h]
    have : (0 : Int) - n = ((n.natAbs : Nat) : Int) := by omega
    rw [this]
  show tl (Str.ofString (toString n)) = _
  rw [e]
  have e2 : tl (Str.ofString ("-" ++ toString ((n.natAbs : Nat) : Int))) = ("-" ++ toString ((n.natAbs : Nat) : Int)).toList.map Char.toNat := tl_ofString _
  have e3 : tl (Str.ofString (toString ((n.natAbs : Nat) : Int))) = (toString ((n.natAbs : Nat) : Int)).toList.map Char.toNat := tl_ofString _
  rw [e2, String.toList_append, List.map_append, ← e3, tl_num]
  rfl
theorem nat_of {n : Int} (h : 0 ≤ n) : ∃ k : Nat, n = k := Int.eq_ofNat_of_zero_le h
theorem len_S {n : Int} {k : Nat} (hk : 0 < k) (h : n.natAbs < 10 ^ k) : (S n).length ≤ k + 1 := by
  rw [len_tl]
  by_cases h0 : 0 ≤ n
  · obtain ⟨m, rfl⟩ := nat_of h0
    rw [tl_nat]
    have := numL_len hk (show m < 10 ^ k by omega)
    omega
  · rw [tl_neg (by omega), List.length_cons]
    have := numL_len hk h
    omega
theorem len_app (x y : Str) : (x ++ y).length = x.length + y.length := by
  rw [len_tl, len_tl, len_tl, tl_append, List.length_append]
end TX
set_option Elab.async false
set_option linter.all false
set_option maxRecDepth 100000
set_option maxHeartbeats 8000000
set_option exponentiation.threshold 3000
namespace K24
open PySem PySem.Spec PyProof.Rows L2 GX MX Pg
local macro_rules | `(tactic| push_cast [$a,*]) => `(tactic| simp only [go_op, kOp_ok, kOp2_ok, go_un, kUn_ok, go_b, kB_ok, go_tV, kTV_ok, go_tR, kTR_ok, go_tA, kA_t, kA_f, go_tO, kO_t, kO_f, go_tN, kN_ok, go_eA, kEA_t, kEA_f, go_eO, kEO_t, kEO_f, go_eN, kEN_ok, go_eIf, kIf_t, kIf_f, go_aC, kAC_ok, kAC2_ok, go_aN, go_eL, kL_ok, go_eT, kTu_ok, go_mkL, go_mkT, kFL_ok, kFT_ok, fx_val, fx_own, fx_sl, kFxS_fz, kFxS_ow, fxA_nil, fxA_cons, kFA_ok, kFA2_ok, rd_val, rd_own, rd_sl, kRdS_fz, kRdS_ow, kRdS_io, fix_lst, fix_ins, rdA_nil, rdA_cons, kRA_ok, kRA2_ok, go_eV, kV_fz, kV_ow, kV_io, go_eC, ap1_ok, ap2_ok, opt_ok, go_eSl, kSl_ok, kSl2_ok, kSl3_ok, go_pN, go_pS, kPS_ok, isI', slT_lst, slT_lsk, slT_tup, go_eCh, kCh_ok, kCh2_ok, kCh3_t, kCh3_f, go_call, kCall_ok, kCall2_ok, kCall3_val, kCall3_own, kCall3_ex, go_callI, kCI_ok, kCI2_ok, kCI3_ok, kCI4_val, kCI4_own, kCI4_ex, rep_ow, rep_io, go_ownAt, kOA_ow, kOA_io, go_lstAt, kLA_ow, kLA_io, go_app, kAp_ok, kAp2_ok, kAp3_ok, kAp4_ok, go_seq, kSeq_nx, kSeq_rt, kSeq_ex, kSeq_bk, kSeq_ct, go_set, kSt_ok, kSt_ex, go_ret, go_retN, go_nx, go_x, go_kX, go_if, kSIf_t, kSIf_f, kSIf_ex, out_val, out_own, out_sl, kOut_fz, kOut_ow, go_put, kPut_ok, cPut_f, putV_own, putV_val, putV_sl, kPutF_ok, go_gN, kGN_ok, cGN_f, go_gT, cGT_ok, go_gn, go_gc, kGc_ok, go_tup, go_kTup, kTup2_ok, kNx_ok, go_par, kPar_ok, kPar2_ok, kPar3_ok, go_aug, kAug_ok, kAug2_ok, kAug3_ok, go_for, kFor_ok, go_iF, kIF_ok, kIF2_ok, go_iA, kIA_ok, kIA2_ok, seqOf_lst, seqOf_lsk, seqOf_tup, go_rg1, go_rg2, go_rg3, go_enA, go_ziA, go_lc, kLc_ok, cLc_t, go_putIx, go_kPI, kPI2_ok, kPI3_ok, kPI4_ok, kPI5_ok, kPI6_ok, kPI7_ok, go_runD, go_runI, kD_nx, kD_val, kD_own, go_kNo, go_io0, oIx_lst, oIx_lsk, oIx_tup, oNeg_int, isB_bl, go_lc1, kL1_ok, kL2_t, kL2_f, kL3_ok, kL4_ok, kL5_ok, go_tY, wp_nil, wp_cons, kW_ok, kW2_fz, kW2_no, kW2_ow, stl_val, stl_own, stl_sl, oI0_int, oI, bLen, bI1, bI2, bInt, bTup, bLst, bIsi, tyN, revT, oCat, oCatT, MX.eqT, oEq, oNe, MX.isNon, oIsN, oNotN, trT, noAt, cLst, cTup, cAp, cGT_ok, fzs, isIo_no, isIo_fz, isIo_ow, isIo_io, List.getElem?_cons_zero, List.getElem?_cons_succ, List.set_cons_zero, List.set_cons_succ, List.length_cons, List.length_nil, List.replicate, List.cons_append, List.nil_append, List.all_cons, List.all_nil, ↓reduceIte, Bool.and_true, Bool.true_and, Bool.false_eq_true, Bool.not_true, Bool.not_false, decide_true, decide_false, Nat.zero_add, Nat.add_zero, Nat.sub_self, Nat.reduceAdd, Nat.reduceLeDiff, Nat.reduceSub, Nat.le_refl, Nat.zero_le, Nat.succ_eq_add_one, reduceCtorEq, CMul, CDiv, Int.reduceNeg, Int.reducePow, Int.reduceLT, Int.reduceLE, Int.reduceMul, Int.reduceAdd, Int.reduceSub, Int.reduceToNat, or_true, true_or, and_true, true_and, and_self, cpow10, cpow2, cpow5, ix30, ix31, ix32, at30, at31, at32, at20, at21, at40, at41, at42, at43, Int.reduceMod, Nat.reduceLT, cst0, cst1, cst2, cst3, cst4, cst5, cst6, cst7, noX_ok, noX_ex, go_xD, go_xI, kE_nx, kE_val, kE_own, kE_ex, go_callK, kCK_ok, kCK2_ok, kCK3_ok, kCK4_ok, cCK, callR_val, callR_own, callR_ex, byK1, byK01, byK10, byK012, go_callIO, kIO_ok, kIO2_val, kIO2_own, kIO2_ex, go_lam, kLam_ok, kLam_ex, kLam2_ok, kLam3_val, kLam3_own, go_rs, kRs_ok, kRs2_ok, go_xf, kXf_ok, kXf2_ok, kXf3_ok, go_rv1, kRv_ok, go_iW, kWi_ok, kWi2_ok, Int.reduceEq, go_parE, kPG_ok, kPF_ok, kPE_ok, kPH_ok, go_edc, go_lrg, kLR_ok, atz0, atz1, atz2, atz3, atz4, fix_dct, lkp, lkp0, putT_nil, putT_cons, kOF_ok, go_fldS, kFS_ok, kFS_ex, kFS2_ok, kFS3_ok, go_insAt, kIAt_ow, kIAt_io, go_own2, kO1_ok, kO2_ok, kO3_ok, kO4_ok, kOwnX_ok, refR_obj, refR_own, refR_ex, blR_ok, kQ_f, kQ_t, kOwnQ_ok, isO_obj, isO_tup, isO_str, isO_int, isO_bl, isO_non, isO_lst, isO_edc, isO_dct, go_isO, kIsO_ok, kOwnI_ok, go_tOwn, kTO_ok, kTO2_ok, kTO3_ok, go_notO, go_make, kMk_ok, kMk2_ok, kMk3_ok, kMk3_ex, dS_ok, go_aStar, kSA_ok, kSA2_ok, kSA3_ok, kSA4_nil, go_meth, kMe_ok, kMe2_ok, kMe3_ok, go_dc0, oDG_i, oDG_s, oDI_i, oDN_i, go_dput, kDP_ok, kDP2_ok, kDP3_ok, kDP4_ok, kDP5_ok, kDP6_ok, keyO_int, keyO_str, go_dctAt, kDA_ow, kDA_io, go_dc, kDc_ok, cDc_t, go_dc1, kD1_ok, kD2_t, kD2_f, kD3_ok, kD4_ok, kD5_ok, kD6_ok, kD7_ok, go_iKs, go_lcD, kLD_ok, kLD2_ok, kLD3_ok, go_count, kCt_ok, kCt2_ok, kCt3_ok, go_par2, kP2_ok, go_par3, kP3c_ok, kP3_ok, kP3a_ok, kP3b_ok, go_lam2, kLm2_ok, kLm2_ex, kLm3_ok, kLm4_ok, kLm5_val, kOp_ex, kUn_ex, kB_ex, kAC_ex, go_bTs, kBT_ok, go_bIs, kBI_ok, kBI2_ok, bBool_int, bBool_bl, bStrI_ok, fixA_vals, blTs_map, oFld_ok, List.mem_cons, List.not_mem_nil, or_false, List.mem_singleton, inT_iT, go_m0, kM0_ok, kM0b_ok, kVal_ok, go_m1, kM1_ok, kM1b_ok, kM1c_ok, kM1d_ok, go_part, go_split, kSp_ok, kSpb_ok, kSpc_ok, kSpd_ok, oIxS_ok, bGcd_ok, bDivm_ok, bIntS_ok, go_slS, kSS_ok, kSS2_ok, kSS3_ok, slS_ok, go_sg, kSg_ok, kSg2_ok, fmtT_str, fmtT_int, go_js0, go_js, kJs_ok, kJs2_ok, go_ch3, kC3_ok, kC3b_ok, kC3c_f, kC3c_t, kC3d_ok, kC3e_f, kC3e_t, kC3f_ok, go_try, kTry_ex, kTry_nx, kTry_rt, go_makeL, go_cmeth, kCm_ok, kCm2_ok, kCm3_ok, kFR_val, kFR_own, kFR_ex, go_strO, kSt1_ok, kStO_ok, kStS_ok, go_reprO, kRp_ok, kRp2_ok, kRp3_ok, go_putTup, kPt1_ok, kPt_ok, kPt2_ok, kPt3_ok, oNotB_ok, go_ev2, kEv_ok, kEv2_ok, kEv3_ok, go_pop, kPop_ok, kPop2_ok, go_smeth, kSM_ok, kOwnL_ok, refB_bl, refB_ex, go_boolO, kBO_ok, kBO2_ok, kBO3_ok, bBoolT_tup, bBoolT_int, bBoolT_bl, oInW_ok, List.append_nil, ziB_lst, ziB_tup, rgA_ok, go_join, kJn_ok, kJn2_ok, kJn3_ok, kJn4_lst, kJn4_tup, strsT_map, go_callV, kCV_ok, go_callO, kCO_ok, kCO2_ok, go_asg2, go_kAs2, kAs3_ok, kAs4_ok, go_tryM, kTM_nx, kTM_rt, go_get2, kG2_ok, kGd2_ok, kG3_ok, kG4_ok, kG5_ok, kG6_ok, keyO_s, ziX_sl, ziX_ls, ziX_ll, ziX_tt, enX_str, enX_lst, enX_tup, revTT_ok, bStrU_str, go_lc2, kLc2_ok, cLc2_t, go_parL, kPL_ok, go_par3L, kPL3_ok, go_rsB, kRs3_ok, kRs4_ok, $a,*])
open PySem.NumText
theorem log_lt {n : Nat} (h : n < 10 ^ 600) : n.log2 < 9000 := by
  by_cases z : n = 0
  · rw [z]; decide
  · rw [Nat.log2_lt z]
    exact Nat.lt_of_lt_of_le h (Nat.le_trans (show 10 ^ 600 ≤ 2 ^ 2000 by decide) (Nat.pow_le_pow_right (by decide) (by decide)))
theorem k1 : kitB "int" "int" = some true := by decide +kernel
theorem k2 : kitB "int" "bool" = some false := by decide +kernel
theorem is_int (i : Int) : d_is_integer [.int i] = .ok (.val (.bl true)) none := by
  push_cast [d_is_integer, m_is_integer, k1, k2]
def rF (t b : Int) : List (Str × T) := [(Str.ofString "top", .int (t / (Nat.gcd t.natAbs b.natAbs : Nat))), (Str.ofString "bottom", .int (b / (Nat.gcd t.natAbs b.natAbs : Nat))), (Str.ofString "floor", .int (t / b))]
def rt (t b : Int) : T := .obj (Str.ofString "Ratio") (rF t b)
def rtC (t b : Int) : OC := .ins (Str.ofString "Ratio") (rF t b)
theorem n1 : (Str.ofString "top" = Str.ofString "bottom") = False := eq_false (by decide)
theorem n2 : (Str.ofString "top" = Str.ofString "floor") = False := eq_false (by decide)
theorem n3 : (Str.ofString "bottom" = Str.ofString "floor") = False := eq_false (by decide)
theorem m1 : (Str.ofString "bottom" = Str.ofString "top") = False := eq_false (by decide)
theorem f_top (t b : Int) : oFld [Str.ofString "Ratio"] (Str.ofString "top") (rt t b) = some (.val (.int (t / (Nat.gcd t.natAbs b.natAbs : Nat)))) := by
  unfold rt
  rw [oFld_ok List.mem_cons_self]
  unfold rF
  simp only [lkp, ↓reduceIte, kOF_ok]
theorem f_bot (t b : Int) : oFld [Str.ofString "Ratio"] (Str.ofString "bottom") (rt t b) = some (.val (.int (b / (Nat.gcd t.natAbs b.natAbs : Nat)))) := by
  unfold rt
  rw [oFld_ok List.mem_cons_self]
  unfold rF
  simp only [lkp, ↓reduceIte, kOF_ok, m1]
theorem gcd_pos {t b : Int} (b0 : 0 < b) : 0 < Nat.gcd t.natAbs b.natAbs ∧ Nat.gcd t.natAbs b.natAbs ≤ b.natAbs := ⟨Nat.gcd_pos_of_pos_right _ (by omega), Nat.gcd_le_right _ (by omega)⟩
theorem dinit_ok {t b : Int} (b0 : 0 < b) (b1 : b.natAbs < 10 ^ 600) : d_Ratio___init__ (.ins (Str.ofString "Ratio") []) [.int t, .int b] = .ok (.val .non) (some (rtC t b)) := by
  obtain ⟨g0, g1⟩ := gcd_pos (t := t) b0
  have w1 : ∀ i, CDivW i ((Nat.gcd t.natAbs b.natAbs : Nat) : Int) := fun i => ⟨by omega, by rw [Int.natAbs_natCast]; exact log_lt (by omega)⟩
  have w2 : CDivW t b := ⟨b0, log_lt b1⟩
  have nb : ¬ b < 1 := by omega
  have wt := w1 t
  have wb := w1 b
  unfold rtC rF
  push_cast [d_Ratio___init__, m_Ratio___init__, is_int, nb, bGcd_ok, wt, wb, w2, n1, n2, n3]
theorem len_em : Str.empty.length = 0 := rfl
theorem len_app2 (x y : Str) : (x ++ y).length = x.length + y.length := TX.len_app x y
theorem tstr_len {i : Int} (h : i.natAbs < 10 ^ 61) : (toString i : Str).length ≤ 62 := TX.len_S (k := 61) (by decide) h
def Rp (t : T) (z : Str) : Prop := rpO t = some z ∧ Sml z
theorem rp_of {t : T} {d : PyData} (h : rpO t = (match bReprE [t] with
    | some (.val (.str z)) => some z
    | _ => none)) (e : toE t = some d) (c : d.showable = true ∧ d.depth ≤ 100 ∧ d.shown.length ≤ 16777216) : rpO t = some d.shown := by
  rw [h, reprE_ok e c]
theorem rp_int {i : Int} (h : i.natAbs < 10 ^ 100) : ∃ z, Rp (.int i) z := by
  have b : i.natAbs < 2 ^ 1000 := Nat.lt_of_lt_of_le h (by decide)
  have c := cd_int b
  have s := PyData.shown_le_bulk 2000 (by decide) _ c.lv
  have hb := c.bu
  refine ⟨_, rp_of rfl rfl ⟨c.sh, Nat.le_trans c.de (by decide), by have m : 2002 * (PyData.int i).bulk ≤ 2002 * 0 := Nat.mul_le_mul_left _ hb; omega⟩, ?_⟩
  simp only [PyData.shown]
  exact sml_of _
theorem rp_c {t : T} {d : PyData} (h : rpO t = (match bReprE [t] with
    | some (.val (.str z)) => some z
    | _ => none)) (e : toE t = some d) (c : d.showable = true ∧ d.depth ≤ 100 ∧ d.shown.length ≤ 16777216) (s : ∀ c ∈ d.shown.cps.toList, c < 1114112) : ∃ z, Rp t z := ⟨_, rp_of h e c, s⟩
theorem log_2 : (3 : Int).natAbs.log2 < 1920 := by decide
theorem log_1 : (1 : Int).natAbs.log2 < 1920 := by decide
theorem repr_rt : ∃ z, d_Ratio___repr__ [rt 1 3] = .ok (.val (.str z)) none ∧ Sml z := by
  have ft := f_top 1 3
  have fb := f_bot 1 3
  have g : Nat.gcd (1 : Int).natAbs (3 : Int).natAbs = 1 := by decide
  have e1 : ((1 : Nat) : Int) = 1 := rfl
  rw [g, e1, Int.ediv_one] at ft fb
  have n2 := tstr_len (i := 3) (by decide)
  have n1 := tstr_len (i := 1) (by decide)
  have zz := sizeLine_eq
  have l1 : (Str.ofString "Ratio(").length = 6 := by decide +kernel
  have l2 : (Str.ofString ", ").length = 2 := by decide +kernel
  have l3 : (Str.ofString ")").length = 1 := by decide +kernel
  have c1 : (Str.empty ++ Str.ofString "Ratio(").length ≤ sizeLine := by rw [len_app2, len_em]; omega
  have c2 : ((Str.empty ++ Str.ofString "Ratio(") ++ (toString (1 : Int) : Str)).length ≤ sizeLine := by rw [len_app2, len_app2, len_em]; omega
  have c3 : (((Str.empty ++ Str.ofString "Ratio(") ++ (toString (1 : Int) : Str)) ++ Str.ofString ", ").length ≤ sizeLine := by rw [len_app2, len_app2, len_app2, len_em]; omega
  have c4 : ((((Str.empty ++ Str.ofString "Ratio(") ++ (toString (1 : Int) : Str)) ++ Str.ofString ", ") ++ (toString (3 : Int) : Str)).length ≤ sizeLine := by rw [len_app2, len_app2, len_app2, len_app2, len_em]; omega
  have c5 : (((((Str.empty ++ Str.ofString "Ratio(") ++ (toString (1 : Int) : Str)) ++ Str.ofString ", ") ++ (toString (3 : Int) : Str)) ++ Str.ofString ")").length ≤ sizeLine := by rw [len_app2, len_app2, len_app2, len_app2, len_app2, len_em]; omega
  refine ⟨((((Str.empty ++ Str.ofString "Ratio(") ++ (toString (1 : Int) : Str)) ++ Str.ofString ", ") ++ (toString (3 : Int) : Str)) ++ Str.ofString ")", by push_cast [d_Ratio___repr__, m_Ratio___repr__, ft, fb, fmtT_int, log_1, log_2, c1, c2, c3, c4, c5], ?_⟩
  exact sml_app (sml_app (sml_app (sml_app (sml_app (fun c hc => by cases hc) (sml_of _)) (sml_of _)) (sml_of _)) (sml_of _)) (sml_of _)
theorem rp_rt : ∃ z, Rp (rt 1 3) z := by
  obtain ⟨z, e, s⟩ := repr_rt
  refine ⟨z, ?_, s⟩
  show (if Str.ofString "Ratio" = Str.ofString "Ratio" then (match d_Ratio___repr__ [.obj (Str.ofString "Ratio") (rF 1 3)] with
    | .ok (.val (.str z)) _ => some z
    | _ => none) else none) = _
  rw [if_pos rfl, show d_Ratio___repr__ [.obj (Str.ofString "Ratio") (rF 1 3)] = _ from e]
def things (g : Int) : List T := [.non, .bl true, .bl false, .str (Str.ofString ""), .str (Str.ofString "text"), .tup [.int 1, .tup [.int 2]], .lst [.int 1, .lst [.int 2]], .dct [(.inr (Str.ofString "a"), .int 1)], rt 1 3, .int 0, .int g, .tup []]
theorem th_all {g : Int} (hg : g.natAbs < 10 ^ 100) : ∀ t ∈ things g, ∃ z, Rp t z := fun t ht => by
  unfold things at ht
  simp only [List.mem_cons, List.not_mem_nil, or_false] at ht
  rcases ht with rfl | rfl | rfl | rfl | rfl | rfl | rfl | rfl | rfl | rfl | rfl | rfl
  · exact rp_c (d := .none) rfl rfl (by decide +kernel) (by decide +kernel)
  · exact rp_c (d := .bool true) rfl rfl (by decide +kernel) (by decide +kernel)
  · exact rp_c (d := .bool false) rfl rfl (by decide +kernel) (by decide +kernel)
  · exact rp_c (d := .str (Str.ofString "")) rfl rfl (by decide +kernel) (by decide +kernel)
  · exact rp_c (d := .str (Str.ofString "text")) rfl rfl (by decide +kernel) (by decide +kernel)
  · exact rp_c (d := .tuple [.int 1, .tuple [.int 2]]) rfl rfl (by decide +kernel) (by decide +kernel)
  · exact rp_c (d := .list [.int 1, .list [.int 2]]) rfl rfl (by decide +kernel) (by decide +kernel)
  · exact rp_c (d := .dict [(.str (Str.ofString "a"), .int 1)]) rfl rfl (by decide +kernel) (by decide +kernel)
  · exact rp_rt
  · exact rp_c (d := .int 0) rfl rfl (by decide +kernel) (by decide +kernel)
  · exact rp_int hg
  · exact rp_c (d := .tuple []) rfl rfl (by decide +kernel) (by decide +kernel)
end K24
set_option Elab.async false
set_option linter.all false
set_option maxRecDepth 100000
set_option maxHeartbeats 8000000
set_option exponentiation.threshold 3000
namespace K24
open PySem PySem.Spec PyProof.Rows L2 GX MX Pg
local macro_rules | `(tactic| push_cast [$a,*]) => `(tactic| simp only [go_op, kOp_ok, kOp2_ok, go_un, kUn_ok, go_b, kB_ok, go_tV, kTV_ok, go_tR, kTR_ok, go_tA, kA_t, kA_f, go_tO, kO_t, kO_f, go_tN, kN_ok, go_eA, kEA_t, kEA_f, go_eO, kEO_t, kEO_f, go_eN, kEN_ok, go_eIf, kIf_t, kIf_f, go_aC, kAC_ok, kAC2_ok, go_aN, go_eL, kL_ok, go_eT, kTu_ok, go_mkL, go_mkT, kFL_ok, kFT_ok, fx_val, fx_own, fx_sl, kFxS_fz, kFxS_ow, fxA_nil, fxA_cons, kFA_ok, kFA2_ok, rd_val, rd_own, rd_sl, kRdS_fz, kRdS_ow, kRdS_io, fix_lst, fix_ins, rdA_nil, rdA_cons, kRA_ok, kRA2_ok, go_eV, kV_fz, kV_ow, kV_io, go_eC, ap1_ok, ap2_ok, opt_ok, go_eSl, kSl_ok, kSl2_ok, kSl3_ok, go_pN, go_pS, kPS_ok, isI', slT_lst, slT_lsk, slT_tup, go_eCh, kCh_ok, kCh2_ok, kCh3_t, kCh3_f, go_call, kCall_ok, kCall2_ok, kCall3_val, kCall3_own, kCall3_ex, go_callI, kCI_ok, kCI2_ok, kCI3_ok, kCI4_val, kCI4_own, kCI4_ex, rep_ow, rep_io, go_ownAt, kOA_ow, kOA_io, go_lstAt, kLA_ow, kLA_io, go_app, kAp_ok, kAp2_ok, kAp3_ok, kAp4_ok, go_seq, kSeq_nx, kSeq_rt, kSeq_ex, kSeq_bk, kSeq_ct, go_set, kSt_ok, kSt_ex, go_ret, go_retN, go_nx, go_x, go_kX, go_if, kSIf_t, kSIf_f, kSIf_ex, out_val, out_own, out_sl, kOut_fz, kOut_ow, go_put, kPut_ok, cPut_f, putV_own, putV_val, putV_sl, kPutF_ok, go_gN, kGN_ok, cGN_f, go_gT, cGT_ok, go_gn, go_gc, kGc_ok, go_tup, go_kTup, kTup2_ok, kNx_ok, go_par, kPar_ok, kPar2_ok, kPar3_ok, go_aug, kAug_ok, kAug2_ok, kAug3_ok, go_for, kFor_ok, go_iF, kIF_ok, kIF2_ok, go_iA, kIA_ok, kIA2_ok, seqOf_lst, seqOf_lsk, seqOf_tup, go_rg1, go_rg2, go_rg3, go_enA, go_ziA, go_lc, kLc_ok, cLc_t, go_putIx, go_kPI, kPI2_ok, kPI3_ok, kPI4_ok, kPI5_ok, kPI6_ok, kPI7_ok, go_runD, go_runI, kD_nx, kD_val, kD_own, go_kNo, go_io0, oIx_lst, oIx_lsk, oIx_tup, oNeg_int, isB_bl, go_lc1, kL1_ok, kL2_t, kL2_f, kL3_ok, kL4_ok, kL5_ok, go_tY, wp_nil, wp_cons, kW_ok, kW2_fz, kW2_no, kW2_ow, stl_val, stl_own, stl_sl, oI0_int, oI, bLen, bI1, bI2, bInt, bTup, bLst, bIsi, tyN, revT, oCat, oCatT, MX.eqT, oEq, oNe, MX.isNon, oIsN, oNotN, trT, noAt, cLst, cTup, cAp, cGT_ok, fzs, isIo_no, isIo_fz, isIo_ow, isIo_io, List.getElem?_cons_zero, List.getElem?_cons_succ, List.set_cons_zero, List.set_cons_succ, List.length_cons, List.length_nil, List.replicate, List.cons_append, List.nil_append, List.all_cons, List.all_nil, ↓reduceIte, Bool.and_true, Bool.true_and, Bool.false_eq_true, Bool.not_true, Bool.not_false, decide_true, decide_false, Nat.zero_add, Nat.add_zero, Nat.sub_self, Nat.reduceAdd, Nat.reduceLeDiff, Nat.reduceSub, Nat.le_refl, Nat.zero_le, Nat.succ_eq_add_one, reduceCtorEq, CMul, CDiv, Int.reduceNeg, Int.reducePow, Int.reduceLT, Int.reduceLE, Int.reduceMul, Int.reduceAdd, Int.reduceSub, Int.reduceToNat, or_true, true_or, and_true, true_and, and_self, cpow10, cpow2, cpow5, ix30, ix31, ix32, at30, at31, at32, at20, at21, at40, at41, at42, at43, Int.reduceMod, Nat.reduceLT, cst0, cst1, cst2, cst3, cst4, cst5, cst6, cst7, noX_ok, noX_ex, go_xD, go_xI, kE_nx, kE_val, kE_own, kE_ex, go_callK, kCK_ok, kCK2_ok, kCK3_ok, kCK4_ok, cCK, callR_val, callR_own, callR_ex, byK1, byK01, byK10, byK012, go_callIO, kIO_ok, kIO2_val, kIO2_own, kIO2_ex, go_lam, kLam_ok, kLam_ex, kLam2_ok, kLam3_val, kLam3_own, go_rs, kRs_ok, kRs2_ok, go_xf, kXf_ok, kXf2_ok, kXf3_ok, go_rv1, kRv_ok, go_iW, kWi_ok, kWi2_ok, Int.reduceEq, go_parE, kPG_ok, kPF_ok, kPE_ok, kPH_ok, go_edc, go_lrg, kLR_ok, atz0, atz1, atz2, atz3, atz4, fix_dct, lkp, lkp0, putT_nil, putT_cons, kOF_ok, go_fldS, kFS_ok, kFS_ex, kFS2_ok, kFS3_ok, go_insAt, kIAt_ow, kIAt_io, go_own2, kO1_ok, kO2_ok, kO3_ok, kO4_ok, kOwnX_ok, refR_obj, refR_own, refR_ex, blR_ok, kQ_f, kQ_t, kOwnQ_ok, isO_obj, isO_tup, isO_str, isO_int, isO_bl, isO_non, isO_lst, isO_edc, isO_dct, go_isO, kIsO_ok, kOwnI_ok, go_tOwn, kTO_ok, kTO2_ok, kTO3_ok, go_notO, go_make, kMk_ok, kMk2_ok, kMk3_ok, kMk3_ex, dS_ok, go_aStar, kSA_ok, kSA2_ok, kSA3_ok, kSA4_nil, go_meth, kMe_ok, kMe2_ok, kMe3_ok, go_dc0, oDG_i, oDG_s, oDI_i, oDN_i, go_dput, kDP_ok, kDP2_ok, kDP3_ok, kDP4_ok, kDP5_ok, kDP6_ok, keyO_int, keyO_str, go_dctAt, kDA_ow, kDA_io, go_dc, kDc_ok, cDc_t, go_dc1, kD1_ok, kD2_t, kD2_f, kD3_ok, kD4_ok, kD5_ok, kD6_ok, kD7_ok, go_iKs, go_lcD, kLD_ok, kLD2_ok, kLD3_ok, go_count, kCt_ok, kCt2_ok, kCt3_ok, go_par2, kP2_ok, go_par3, kP3c_ok, kP3_ok, kP3a_ok, kP3b_ok, go_lam2, kLm2_ok, kLm2_ex, kLm3_ok, kLm4_ok, kLm5_val, kOp_ex, kUn_ex, kB_ex, kAC_ex, go_bTs, kBT_ok, go_bIs, kBI_ok, kBI2_ok, bBool_int, bBool_bl, bStrI_ok, fixA_vals, blTs_map, oFld_ok, List.mem_cons, List.not_mem_nil, or_false, List.mem_singleton, inT_iT, go_m0, kM0_ok, kM0b_ok, kVal_ok, go_m1, kM1_ok, kM1b_ok, kM1c_ok, kM1d_ok, go_part, go_split, kSp_ok, kSpb_ok, kSpc_ok, kSpd_ok, oIxS_ok, bGcd_ok, bDivm_ok, bIntS_ok, go_slS, kSS_ok, kSS2_ok, kSS3_ok, slS_ok, go_sg, kSg_ok, kSg2_ok, fmtT_str, fmtT_int, go_js0, go_js, kJs_ok, kJs2_ok, go_ch3, kC3_ok, kC3b_ok, kC3c_f, kC3c_t, kC3d_ok, kC3e_f, kC3e_t, kC3f_ok, go_try, kTry_ex, kTry_nx, kTry_rt, go_makeL, go_cmeth, kCm_ok, kCm2_ok, kCm3_ok, kFR_val, kFR_own, kFR_ex, go_strO, kSt1_ok, kStO_ok, kStS_ok, go_reprO, kRp_ok, kRp2_ok, kRp3_ok, go_putTup, kPt1_ok, kPt_ok, kPt2_ok, kPt3_ok, oNotB_ok, go_ev2, kEv_ok, kEv2_ok, kEv3_ok, go_pop, kPop_ok, kPop2_ok, go_smeth, kSM_ok, kOwnL_ok, refB_bl, refB_ex, go_boolO, kBO_ok, kBO2_ok, kBO3_ok, bBoolT_tup, bBoolT_int, bBoolT_bl, oInW_ok, List.append_nil, ziB_lst, ziB_tup, rgA_ok, go_join, kJn_ok, kJn2_ok, kJn3_ok, kJn4_lst, kJn4_tup, strsT_map, go_callV, kCV_ok, go_callO, kCO_ok, kCO2_ok, go_asg2, go_kAs2, kAs3_ok, kAs4_ok, go_tryM, kTM_nx, kTM_rt, go_get2, kG2_ok, kGd2_ok, kG3_ok, kG4_ok, kG5_ok, kG6_ok, keyO_s, ziX_sl, ziX_ls, ziX_ll, ziX_tt, enX_str, enX_lst, enX_tup, revTT_ok, bStrU_str, go_lc2, kLc2_ok, cLc2_t, go_parL, kPL_ok, go_par3L, kPL3_ok, go_rsB, kRs3_ok, kRs4_ok, $a,*])
theorem sml_In : ∀ x ∈ abIn, Sml x := fun x hx => by
  unfold abIn at hx
  simp only [List.mem_cons, List.not_mem_nil, or_false] at hx
  rcases hx with rfl | rfl <;> exact sml_of _
theorem sml_St : ∀ x ∈ abSt, Sml x := fun x hx => by
  unfold abSt at hx
  simp only [List.mem_cons, List.not_mem_nil, or_false] at hx
  rcases hx with rfl | rfl <;> exact sml_of _
theorem sml_Li : ∀ x ∈ abLi, Sml x := fun x hx => by
  unfold abLi at hx
  simp only [List.mem_cons, List.not_mem_nil, or_false] at hx
  rcases hx with rfl | rfl <;> exact sml_of _
theorem right_ok {c : OC} (hc : St c) : ∃ c', d_q_right c [] = .ok (.val (.bl true)) (some c') := by
  obtain ⟨i, c1, e1, i0, i1, h1⟩ := draw_ok (m := 12) hc (by decide) (by decide)
  have p30 : (10 : Int) ^ 30 = 1000000000000000000000000000000 := by decide
  have p29 : (10 : Int) ^ 29 = 100000000000000000000000000000 := by decide
  obtain ⟨v, c2, e2, v0, v1, h2⟩ := draw_ok (m := 1000000000000000000000000000000) h1 (by decide) (by decide)
  obtain ⟨n, rfl⟩ := Int.eq_ofNat_of_zero_le i0
  have hn : n < (things (v - 100000000000000000000000000000)).length := by show n < 12; omega
  have x1 : MX.atT (things (v - 100000000000000000000000000000)) (n : Int) = some (.val (things (v - 100000000000000000000000000000))[n]) := atI_nat' (List.getElem?_eq_getElem hn)
  obtain ⟨z, hz, sz⟩ := th_all (g := v - 100000000000000000000000000000) (by
    have : (v - 100000000000000000000000000000).natAbs < 10 ^ 31 := by omega
    exact Nat.lt_of_lt_of_le this (Nat.pow_le_pow_right (by decide) (by decide))) _ (List.getElem_mem hn)
  generalize (things (v - 100000000000000000000000000000))[n] = A at x1 hz
  have d1 := dinit_ok (t := 1) (b := 3) (by decide) (by show 3 < 10 ^ 600; decide)
  have n1 := numbers_ok A
  have n2 := places_ok A
  have n3 := others_ok A
  have n4 := states_ok A
  have n5 := limits_ok A
  have a1 := all_right_ok hz sz sml_In (by decide) (numbersL A ++ placesL A ++ othersL A) (rowsIn A)
  have a2 := all_right_ok hz sz sml_St (by decide) (statesL A) (rowsSt A)
  have a3 := all_right_ok hz sz sml_Li (by decide) (limitsL A) (rowsLi A)
  rw [List.map_append, List.map_append] at a1
  have l1 : ((numbersL A).map (rowT A)).length + ((placesL A).map (rowT A)).length ≤ 16777216 := by simp only [List.length_map]; show 11 + 9 ≤ 16777216; decide
  have l2 : ((numbersL A).map (rowT A)).length + ((placesL A).map (rowT A)).length + ((othersL A).map (rowT A)).length ≤ 16777216 := by simp only [List.length_map]; show 11 + 9 + 7 ≤ 16777216; decide
  generalize (numbersL A).map (rowT A) = L1 at n1 a1 l1 l2
  generalize (placesL A).map (rowT A) = L2 at n2 a1 l1 l2
  generalize (othersL A).map (rowT A) = L3 at n3 a1 l2
  generalize (statesL A).map (rowT A) = L4 at n4 a2
  generalize (limitsL A).map (rowT A) = L5 at n5 a3
  unfold tS abIn at a1
  unfold tS abSt at a2
  unfold tS abLi at a3
  simp only [List.map_cons, List.map_nil] at a1 a2 a3
  unfold things rt at x1
  exact ⟨c2, by push_cast [d_q_right, m_q_right, p30, p29, e1, e2, d1, rtC, x1, n1, n2, n3, n4, n5, a1, a2, a3, l1, l2, List.length_append, List.append_nil, go_dcK1]⟩
theorem out_loop {ns : List Int} : ∀ (its : List T) (y1 : SV) (y2 : SV), y2.isIo = false → (∀ t ∈ its, ∃ k : Nat, t = .int k ∧ k ≤ 63) →
    ∃ z2, forL (gN 2) m_law_b1 its [.fz (.lsk (iT ns)), y1, y2] = .nx [.fz (.lsk (iT ns)), y1, z2]
  | [], y1, y2, _, _ => ⟨y2, rfl⟩
  | t :: ts, y1, y2, h1, hi => by
    obtain ⟨k, rfl, hk⟩ := hi t List.mem_cons_self
    obtain ⟨c, e1, hc⟩ := purse_ok (ns := ns) hk
    obtain ⟨c', e2⟩ := right_ok hc
    obtain ⟨z1, e3⟩ := out_loop (ns := ns) ts y1 (.fz (.int k)) rfl fun u hu => hi u (List.mem_cons_of_mem _ hu)
    refine ⟨z1, ?_⟩
    have e4 : m_law_b1 [.fz (.lsk (iT ns)), y1, .fz (.int k)] = .nx [.fz (.lsk (iT ns)), y1, .fz (.int k)] := by
      push_cast [m_law_b1, e1, e2]
    rw [forL_cons (gN_ok (y := y2) rfl h1) e4]
    exact e3
def toldT : List T := [.int 20, .int 8, .int 24, .int 1000, .int (10 ^ 30), .int (10 ^ 50 * 10 ^ 50 * 10 ^ 50), .int 5040]
theorem v_law {ns : List Int} (hl : ns.length ≤ 63) : d_law [.lsk (iT ns)] = .ok (.val (.bl true)) none := by
  obtain ⟨n, en, hn⟩ : ∃ n : Nat, (if (if (8 : Int) < (ns.length : Int) then (8 : Int) else (ns.length : Int)) > 2 then (if (8 : Int) < (ns.length : Int) then (8 : Int) else (ns.length : Int)) else 2) = (n : Int) ∧ n ≤ 8 := by
    by_cases z : (8 : Int) < (ns.length : Int)
    · exact ⟨8, by rw [if_pos z]; decide, by decide⟩
    · rw [if_neg z]
      by_cases z2 : (ns.length : Int) > 2
      · exact ⟨ns.length, by rw [if_pos z2], by omega⟩
      · exact ⟨2, by rw [if_neg z2]; rfl, by decide⟩
  have lI : ((iT ns).length : Int) = (ns.length : Int) := by rw [List.length_map]
  have rg := rg_of (n : Int) n rfl (by omega)
  obtain ⟨z, hz, sz⟩ : ∃ z, Rp (.lst toldT) z := rp_c (d := .list [.int 20, .int 8, .int 24, .int 1000, .int (10 ^ 30), .int (10 ^ 50 * 10 ^ 50 * 10 ^ 50), .int 5040]) rfl rfl (by decide +kernel) (by decide +kernel)
  have p30 : (10 : Int) ^ 30 = 1000000000000000000000000000000 := by decide
  have p50 : (10 : Int) ^ 50 = 100000000000000000000000000000000000000000000000000 := by decide
  have q1 : CMulW (100000000000000000000000000000000000000000000000000 : Int) 100000000000000000000000000000000000000000000000000 := wide_mul (a := 170) (b := 170) (by decide) (by decide) (by decide) (by decide) (by decide)
  have q2 : CMulW (100000000000000000000000000000000000000000000000000 * 100000000000000000000000000000000000000000000000000 : Int) 100000000000000000000000000000000000000000000000000 := wide_mul (a := 340) (b := 170) (by decide) (by decide) (by decide) (by decide) (by decide)
  simp only [Int.reduceMul] at q2
  unfold rpO toldT at hz
  rw [p30, p50] at hz
  simp only [Int.reduceMul] at hz
  obtain ⟨z1, e1⟩ := out_loop (ns := ns) (rngT 0 1 n) (.fz (.lst toldT)) .no rfl fun t ht => by
    obtain ⟨i, hi, rfl⟩ := rng_el ht
    exact ⟨i, rfl, by omega⟩
  unfold toldT at e1
  rw [p30, p50] at e1
  simp only [Int.reduceMul] at e1
  push_cast [-go_rg1, d_law, m_law, lI, en, rg, e1, hz, p30, p50, q1, q2]
end K24
set_option linter.all false
namespace SXn
/-- the difference of a function -/
def De (F : Nat → Int) : Nat → Int := fun t => F (t + 1) - F t
def hd : Nat → (Nat → Int) → List Int
  | 0, _ => []
  | n + 1, F => F 0 :: hd n (De F)
def sg (v : Int) : Int := if 0 ≤ v then 1 else -1
theorem sg_pm (v : Int) : sg v = 1 ∨ sg v = -1 := by
  unfold sg
  split
  · exact .inl rfl
  · exact .inr rfl
theorem sg_nn {v : Int} : sg v = 1 ↔ 0 ≤ v := by
  unfold sg
  split <;> simp_all
theorem sg_neg {v : Int} : sg v = -1 ↔ v < 0 := by
  unfold sg
  split <;> constructor <;> intro h <;> first | omega | (exfalso; revert h; decide) | rfl
/-- all within M -/
def In (M : Int) (l : List Int) : Prop := ∀ x ∈ l, -M ≤ x ∧ x ≤ M
theorem In.drop {M : Int} {l : List Int} (h : In M l) (k : Nat) : In M (l.drop k) := fun y hy => h y (List.mem_of_mem_drop hy)
theorem In.mono {M N : Int} {l : List Int} (h : In M l) (k : M ≤ N) : In N l := fun y hy => by
  have := h y hy
  omega
def lst : List Int → Int
  | [] => 0
  | [x] => x
  | _ :: y :: r => lst (y :: r)
/-- the runs l tell the signs g from s on, as far as B reaches -/
def RF (g : Nat → Int) (B : Nat → Prop) : Nat → List (Nat × Int) → Prop
  | _, [] => False
  | s, [(a, e)] => a = s ∧ ∀ t, s ≤ t → B t → g t = e
  | s, (a, e) :: (a', e') :: r => a = s ∧ s < a' ∧ B a' ∧ e' ≠ e ∧ (∀ t, s ≤ t → t < a' → g t = e) ∧ RF g B a' ((a', e') :: r)
def All (_ : Nat) : Prop := True
theorem RF.head {g : Nat → Int} {B : Nat → Prop} : ∀ {s a : Nat} {e : Int} {r : List (Nat × Int)}, RF g B s ((a, e) :: r) → B s → a = s ∧ g s = e
  | s, a, e, [], h, b => ⟨h.1, h.2 s (Nat.le_refl _) b⟩
  | s, a, e, (a', e') :: r, h, b => ⟨h.1, h.2.2.2.2.1 s (Nat.le_refl _) h.2.1⟩
/-- one turn more -/
theorem RF.snoc {g : Nat → Int} {b p : Nat} {e' : Int} {B : Nat → Prop} (hB : ∀ t, t ≤ b → B t) (hp : b < p) (bp : B p) (ne : e' ≠ g b) (h1 : ∀ t, b ≤ t → t < p → g t = g b) (h2 : ∀ t, p ≤ t → B t → g t = e') :
    ∀ {l : List (Nat × Int)} {s : Nat}, s ≤ b → RF g (· ≤ b) s l → RF g B s (l ++ [(p, e')])
  | [], _, _, h => h.elim
  | [(a, e)], s, hs, h => by
    have eb : g b = e := h.2 b hs (Nat.le_refl _)
    refine ⟨h.1, by omega, bp, by rw [← eb]; exact ne, fun t ht tp => ?_, rfl, h2⟩
    by_cases z : t ≤ b
    · exact h.2 t ht z
    · rw [h1 t (by omega) tp, eb]
  | (a, e) :: (a', e') :: r, s, hs, h => ⟨h.1, h.2.1, hB _ h.2.2.1, h.2.2.2.1, h.2.2.2.2.1, RF.snoc hB hp bp ne h1 h2 h.2.2.1 h.2.2.2.2.2⟩
/-- what one run tells -/
theorem RF.at {g : Nat → Int} : ∀ {l : List (Nat × Int)} {s i a : Nat} {e : Int}, RF g All s l → l[i]? = some (a, e) →
    s ≤ a ∧ (i = 0 → a = s) ∧ (∀ a' e', l[i + 1]? = some (a', e') → a < a' ∧ ∀ t, a ≤ t → t < a' → g t = e) ∧ (l[i + 1]? = none → ∀ t, a ≤ t → g t = e)
  | [], _, _, _, _, h, _ => h.elim
  | [(b, f)], s, 0, a, e, h, hi => by
    cases hi
    obtain ⟨rfl, h2⟩ := h
    exact ⟨Nat.le_refl _, fun _ => rfl, fun a' e' z => by simp at z, fun _ t ht => h2 t ht trivial⟩
  | [(b, f)], s, i + 1, a, e, h, hi => by simp at hi
  | (b, f) :: (b', f') :: r, s, 0, a, e, h, hi => by
    cases hi
    obtain ⟨rfl, h2, _, h3, h4, h5⟩ := h
    exact ⟨Nat.le_refl _, fun _ => rfl, fun a' e' z => by
      cases z
      exact ⟨h2, h4⟩, fun z => by simp at z⟩
  | (b, f) :: (b', f') :: r, s, i + 1, a, e, h, hi => by
    obtain ⟨rfl, h2, _, h3, h4, h5⟩ := h
    obtain ⟨x1, _, x2, x3⟩ := RF.at h5 (i := i) (a := a) (e := e) (by simpa using hi)
    exact ⟨by omega, fun z => by omega, fun a' e' z => x2 a' e' (by simpa using z), fun z => x3 (by simpa using z)⟩
/-- signs that are kept where the difference has them -/
theorem keep {f : Nat → Int} {r : Int} {u : Nat} : ∀ (k : Nat), (∀ x, u ≤ x → x < u + k → sg (De f x) = r) → sg (f u) = r → sg (f (u + k)) = r := by
  intro k
  induction k with
  | zero => intro _ h; exact h
  | succ k ih =>
    intro h h0
    have h1 := ih (fun x a b => h x a (by omega)) h0
    have h2 := h (u + k) (by omega) (by omega)
    have e : De f (u + k) = f (u + k + 1) - f (u + k) := rfl
    show sg (f (u + k + 1)) = r
    rcases sg_pm (f (u + k)) with z | z
    · rw [z] at h1
      subst h1
      have a := sg_nn.mp z
      have b := sg_nn.mp h2
      exact sg_nn.mpr (by omega)
    · rw [z] at h1
      subst h1
      have a := sg_neg.mp z
      have b := sg_neg.mp h2
      exact sg_neg.mpr (by omega)
end SXn
set_option Elab.async false
set_option linter.all false
set_option maxRecDepth 100000
set_option maxHeartbeats 4000000
namespace K24
open PySem PySem.Spec PyProof.Rows L2 GX MX
def topS (i : Nat) : Stmt := PySem.Challenge.pw_drawclaims_k24_constants_and_errors_made.main.body.getD i (.Pass ⟨0, 0, 0, 0⟩)
abbrev s_is_integer : Stmt := topS 49
abbrev N_is_integer : List Str := ["value"]
theorem sc_is_integer : FnScope N_is_integer ["value"] (defScope s_is_integer) := ⟨rfl, rfl, rfl, by decide +kernel, rfl, by decide +kernel, by decide +kernel⟩
abbrev s_Ratio___init__ : Stmt := inClass (topS 54) 0
abbrev N_Ratio___init__ : List Str := ["self", "top", "bottom", "common"]
theorem sc_Ratio___init__ : FnScope N_Ratio___init__ ["self", "top", "bottom"] (defScope s_Ratio___init__) := ⟨rfl, rfl, rfl, by decide +kernel, rfl, by decide +kernel, by decide +kernel⟩
abbrev s_Ratio___repr__ : Stmt := inClass (topS 54) 17
abbrev N_Ratio___repr__ : List Str := ["self"]
theorem sc_Ratio___repr__ : FnScope N_Ratio___repr__ ["self"] (defScope s_Ratio___repr__) := ⟨rfl, rfl, rfl, by decide +kernel, rfl, by decide +kernel, by decide +kernel⟩
abbrev s_q_purse : Stmt := topS 62
abbrev N_q_purse : List Str := ["_law_script", "_law_spot", "_law_cell", "_law_each", "_law_mixed"]
theorem sc_q_purse : FnScope N_q_purse ["_law_script", "_law_spot"] (defScope s_q_purse) := ⟨rfl, rfl, rfl, by decide +kernel, rfl, by decide +kernel, by decide +kernel⟩
abbrev s_q_draw : Stmt := topS 63
abbrev N_q_draw : List Str := ["_law_purse_here", "_law_many", "_law_mixed", "_law_step", "_law_digit"]
theorem sc_q_draw : FnScope N_q_draw ["_law_purse_here", "_law_many"] (defScope s_q_draw) := ⟨rfl, rfl, rfl, by decide +kernel, rfl, by decide +kernel, by decide +kernel⟩
abbrev s_q_first_words : Stmt := topS 64
abbrev N_q_first_words : List Str := ["_law_e", "_law_some", "_law_word", "_law_told"]
theorem sc_q_first_words : FnScope N_q_first_words ["_law_e"] (defScope s_q_first_words) := ⟨rfl, rfl, rfl, by decide +kernel, rfl, by decide +kernel, by decide +kernel⟩
abbrev s_q_words : Stmt := topS 65
abbrev N_q_words : List Str := ["_law_e", "_law_some", "_law_word", "_law_told"]
theorem sc_q_words : FnScope N_q_words ["_law_e"] (defScope s_q_words) := ⟨rfl, rfl, rfl, by decide +kernel, rfl, by decide +kernel, by decide +kernel⟩
abbrev s_q_numbers : Stmt := topS 66
abbrev N_q_numbers : List Str := ["_law_thing", "_law_some", "_law_one", "_law_two"]
theorem sc_q_numbers : FnScope N_q_numbers ["_law_thing"] (defScope s_q_numbers) := ⟨rfl, rfl, rfl, by decide +kernel, rfl, by decide +kernel, by decide +kernel⟩
abbrev s_q_places : Stmt := topS 67
abbrev N_q_places : List Str := ["_law_thing", "_law_some"]
theorem sc_q_places : FnScope N_q_places ["_law_thing"] (defScope s_q_places) := ⟨rfl, rfl, rfl, by decide +kernel, rfl, by decide +kernel, by decide +kernel⟩
abbrev s_q_others : Stmt := topS 68
abbrev N_q_others : List Str := ["_law_thing", "_law_some", "_law_one", "_law_two"]
theorem sc_q_others : FnScope N_q_others ["_law_thing"] (defScope s_q_others) := ⟨rfl, rfl, rfl, by decide +kernel, rfl, by decide +kernel, by decide +kernel⟩
abbrev s_q_states : Stmt := topS 69
abbrev N_q_states : List Str := ["_law_thing", "_law_some"]
theorem sc_q_states : FnScope N_q_states ["_law_thing"] (defScope s_q_states) := ⟨rfl, rfl, rfl, by decide +kernel, rfl, by decide +kernel, by decide +kernel⟩
abbrev s_q_limits : Stmt := topS 70
abbrev N_q_limits : List Str := ["_law_thing", "_law_some"]
theorem sc_q_limits : FnScope N_q_limits ["_law_thing"] (defScope s_q_limits) := ⟨rfl, rfl, rfl, by decide +kernel, rfl, by decide +kernel, by decide +kernel⟩
abbrev s_q_all_right : Stmt := topS 71
abbrev N_q_all_right : List Str := ["_law_some", "_law_above", "_law_thing", "_law_word", "_law_e", "_law_first", "_law_second"]
theorem sc_q_all_right : FnScope N_q_all_right ["_law_some", "_law_above", "_law_thing"] (defScope s_q_all_right) := ⟨rfl, rfl, rfl, by decide +kernel, rfl, by decide +kernel, by decide +kernel⟩
abbrev s_q_right : Stmt := topS 72
abbrev N_q_right : List Str := ["_law_purse_here", "_law_way", "_law_great", "_law_things", "_law_thing", "_law_some"]
theorem sc_q_right : FnScope N_q_right ["_law_purse_here"] (defScope s_q_right) := ⟨rfl, rfl, rfl, by decide +kernel, rfl, by decide +kernel, by decide +kernel⟩
abbrev s_law : Stmt := topS 73
abbrev N_law : List Str := ["_law_script", "_law_told", "_law_place_here"]
theorem sc_law : FnScope N_law ["_law_script"] (defScope s_law) := ⟨rfl, rfl, rfl, by decide +kernel, rfl, by decide +kernel, by decide +kernel⟩
abbrev si_InvalidNumber : Stmt := inClass (topS 3) 0
theorem sci_InvalidNumber : FnScope ["self", "number"] ["self", "number"] (defScope si_InvalidNumber) := ⟨rfl, rfl, rfl, by decide +kernel, rfl, by decide +kernel, by decide +kernel⟩
abbrev si_InvalidRatio : Stmt := inClass (topS 4) 0
theorem sci_InvalidRatio : FnScope ["self", "value"] ["self", "value"] (defScope si_InvalidRatio) := ⟨rfl, rfl, rfl, by decide +kernel, rfl, by decide +kernel, by decide +kernel⟩
abbrev si_InvalidShare : Stmt := inClass (topS 5) 0
theorem sci_InvalidShare : FnScope ["self", "value"] ["self", "value"] (defScope si_InvalidShare) := ⟨rfl, rfl, rfl, by decide +kernel, rfl, by decide +kernel, by decide +kernel⟩
abbrev si_InvalidName : Stmt := inClass (topS 6) 0
theorem sci_InvalidName : FnScope ["self", "name"] ["self", "name"] (defScope si_InvalidName) := ⟨rfl, rfl, rfl, by decide +kernel, rfl, by decide +kernel, by decide +kernel⟩
abbrev si_InvalidRows : Stmt := inClass (topS 7) 0
theorem sci_InvalidRows : FnScope ["self", "index"] ["self", "index"] (defScope si_InvalidRows) := ⟨rfl, rfl, rfl, by decide +kernel, rfl, by decide +kernel, by decide +kernel⟩
abbrev si_NotRising : Stmt := inClass (topS 8) 0
theorem sci_NotRising : FnScope ["self", "marks", "place"] ["self", "marks", "place"] (defScope si_NotRising) := ⟨rfl, rfl, rfl, by decide +kernel, rfl, by decide +kernel, by decide +kernel⟩
abbrev si_InvalidLimits : Stmt := inClass (topS 9) 0
theorem sci_InvalidLimits : FnScope ["self", "index"] ["self", "index"] (defScope si_InvalidLimits) := ⟨rfl, rfl, rfl, by decide +kernel, rfl, by decide +kernel, by decide +kernel⟩
abbrev si_InvalidLooks : Stmt := inClass (topS 10) 0
theorem sci_InvalidLooks : FnScope ["self", "index"] ["self", "index"] (defScope si_InvalidLooks) := ⟨rfl, rfl, rfl, by decide +kernel, rfl, by decide +kernel, by decide +kernel⟩
abbrev si_InvalidMarks : Stmt := inClass (topS 11) 0
theorem sci_InvalidMarks : FnScope ["self", "index"] ["self", "index"] (defScope si_InvalidMarks) := ⟨rfl, rfl, rfl, by decide +kernel, rfl, by decide +kernel, by decide +kernel⟩
abbrev si_InvalidState : Stmt := inClass (topS 12) 0
theorem sci_InvalidState : FnScope ["self", "state"] ["self", "state"] (defScope si_InvalidState) := ⟨rfl, rfl, rfl, by decide +kernel, rfl, by decide +kernel, by decide +kernel⟩
abbrev si_InvalidLines : Stmt := inClass (topS 13) 0
theorem sci_InvalidLines : FnScope ["self", "index"] ["self", "index"] (defScope si_InvalidLines) := ⟨rfl, rfl, rfl, by decide +kernel, rfl, by decide +kernel, by decide +kernel⟩
abbrev si_InvalidSize : Stmt := inClass (topS 14) 0
theorem sci_InvalidSize : FnScope ["self", "value"] ["self", "value"] (defScope si_InvalidSize) := ⟨rfl, rfl, rfl, by decide +kernel, rfl, by decide +kernel, by decide +kernel⟩
abbrev si_InvalidMarked : Stmt := inClass (topS 15) 0
theorem sci_InvalidMarked : FnScope ["self", "value"] ["self", "value"] (defScope si_InvalidMarked) := ⟨rfl, rfl, rfl, by decide +kernel, rfl, by decide +kernel, by decide +kernel⟩
abbrev si_InvalidSeries : Stmt := inClass (topS 16) 0
theorem sci_InvalidSeries : FnScope ["self", "index"] ["self", "index"] (defScope si_InvalidSeries) := ⟨rfl, rfl, rfl, by decide +kernel, rfl, by decide +kernel, by decide +kernel⟩
abbrev si_InvalidModulus : Stmt := inClass (topS 17) 0
theorem sci_InvalidModulus : FnScope ["self", "value"] ["self", "value"] (defScope si_InvalidModulus) := ⟨rfl, rfl, rfl, by decide +kernel, rfl, by decide +kernel, by decide +kernel⟩
abbrev si_InvalidKeys : Stmt := inClass (topS 18) 0
theorem sci_InvalidKeys : FnScope ["self", "index"] ["self", "index"] (defScope si_InvalidKeys) := ⟨rfl, rfl, rfl, by decide +kernel, rfl, by decide +kernel, by decide +kernel⟩
abbrev si_InvalidLayers : Stmt := inClass (topS 19) 0
theorem sci_InvalidLayers : FnScope ["self", "index"] ["self", "index"] (defScope si_InvalidLayers) := ⟨rfl, rfl, rfl, by decide +kernel, rfl, by decide +kernel, by decide +kernel⟩
abbrev si_InvalidTables : Stmt := inClass (topS 20) 0
theorem sci_InvalidTables : FnScope ["self", "name"] ["self", "name"] (defScope si_InvalidTables) := ⟨rfl, rfl, rfl, by decide +kernel, rfl, by decide +kernel, by decide +kernel⟩
abbrev si_InvalidDeeds : Stmt := inClass (topS 21) 0
theorem sci_InvalidDeeds : FnScope ["self", "index"] ["self", "index"] (defScope si_InvalidDeeds) := ⟨rfl, rfl, rfl, by decide +kernel, rfl, by decide +kernel, by decide +kernel⟩
abbrev si_InvalidText : Stmt := inClass (topS 22) 0
theorem sci_InvalidText : FnScope ["self", "text"] ["self", "text"] (defScope si_InvalidText) := ⟨rfl, rfl, rfl, by decide +kernel, rfl, by decide +kernel, by decide +kernel⟩
abbrev si_InvalidCommand : Stmt := inClass (topS 23) 0
theorem sci_InvalidCommand : FnScope ["self", "command"] ["self", "command"] (defScope si_InvalidCommand) := ⟨rfl, rfl, rfl, by decide +kernel, rfl, by decide +kernel, by decide +kernel⟩
abbrev si_NotAPlan : Stmt := inClass (topS 24) 0
theorem sci_NotAPlan : FnScope ["self", "value"] ["self", "value"] (defScope si_NotAPlan) := ⟨rfl, rfl, rfl, by decide +kernel, rfl, by decide +kernel, by decide +kernel⟩
abbrev si_NotClaims : Stmt := inClass (topS 25) 0
theorem sci_NotClaims : FnScope ["self", "value"] ["self", "value"] (defScope si_NotClaims) := ⟨rfl, rfl, rfl, by decide +kernel, rfl, by decide +kernel, by decide +kernel⟩
abbrev si_NotFlipped : Stmt := inClass (topS 26) 0
theorem sci_NotFlipped : FnScope ["self", "found"] ["self", "found"] (defScope si_NotFlipped) := ⟨rfl, rfl, rfl, by decide +kernel, rfl, by decide +kernel, by decide +kernel⟩
abbrev si_NotATable : Stmt := inClass (topS 27) 0
theorem sci_NotATable : FnScope ["self", "value"] ["self", "value"] (defScope si_NotATable) := ⟨rfl, rfl, rfl, by decide +kernel, rfl, by decide +kernel, by decide +kernel⟩
abbrev si_NotASample : Stmt := inClass (topS 28) 0
theorem sci_NotASample : FnScope ["self", "value"] ["self", "value"] (defScope si_NotASample) := ⟨rfl, rfl, rfl, by decide +kernel, rfl, by decide +kernel, by decide +kernel⟩
abbrev si_UnknownName : Stmt := inClass (topS 30) 0
theorem sci_UnknownName : FnScope ["self", "name"] ["self", "name"] (defScope si_UnknownName) := ⟨rfl, rfl, rfl, by decide +kernel, rfl, by decide +kernel, by decide +kernel⟩
abbrev si_UnknownRow : Stmt := inClass (topS 31) 0
theorem sci_UnknownRow : FnScope ["self", "key"] ["self", "key"] (defScope si_UnknownRow) := ⟨rfl, rfl, rfl, by decide +kernel, rfl, by decide +kernel, by decide +kernel⟩
abbrev si_KnownRow : Stmt := inClass (topS 32) 0
theorem sci_KnownRow : FnScope ["self", "key"] ["self", "key"] (defScope si_KnownRow) := ⟨rfl, rfl, rfl, by decide +kernel, rfl, by decide +kernel, by decide +kernel⟩
abbrev si_SameRank : Stmt := inClass (topS 33) 0
theorem sci_SameRank : FnScope ["self", "rank"] ["self", "rank"] (defScope si_SameRank) := ⟨rfl, rfl, rfl, by decide +kernel, rfl, by decide +kernel, by decide +kernel⟩
abbrev si_Contradiction : Stmt := inClass (topS 34) 0
theorem sci_Contradiction : FnScope ["self", "key"] ["self", "key"] (defScope si_Contradiction) := ⟨rfl, rfl, rfl, by decide +kernel, rfl, by decide +kernel, by decide +kernel⟩
abbrev si_NotHeld : Stmt := inClass (topS 35) 0
theorem sci_NotHeld : FnScope ["self", "found"] ["self", "found"] (defScope si_NotHeld) := ⟨rfl, rfl, rfl, by decide +kernel, rfl, by decide +kernel, by decide +kernel⟩
abbrev si_TooFew : Stmt := inClass (topS 39) 0
theorem sci_TooFew : FnScope ["self", "looked"] ["self", "looked"] (defScope si_TooFew) := ⟨rfl, rfl, rfl, by decide +kernel, rfl, by decide +kernel, by decide +kernel⟩
abbrev si_TooFine : Stmt := inClass (topS 40) 0
theorem sci_TooFine : FnScope ["self", "found"] ["self", "found"] (defScope si_TooFine) := ⟨rfl, rfl, rfl, by decide +kernel, rfl, by decide +kernel, by decide +kernel⟩
structure Txt [TabL] (K : PySem.W.Frag) (mg : Str → Option Value) where
  z_isinstance : mg "isinstance" = none
  z_int : mg "int" = none
  z_bool : mg "bool" = none
  z_len : mg "len" = none
  z_abs : mg "abs" = none
  z_divmod : mg "divmod" = none
  z_ValueError : mg "ValueError" = none
  z_LookupError : mg "LookupError" = none
  z_ArithmeticError : mg "ArithmeticError" = none
  z_repr : mg "repr" = none
  z_range : mg "range" = none
  z_max : mg "max" = none
  z_min : mg "min" = none
  t_BOTTOM : Tok
  g_BOTTOM : mg "BOTTOM" = some (.int 24 t_BOTTOM)
  t_CLASSES : Tok
  g_CLASSES : mg "CLASSES" = some (.int 8 t_CLASSES)
  t_FROM : Tok
  g_FROM : mg "FROM" = some (.int 1000000000000000000000000000000 t_FROM)
  t_LONGEST : Tok
  g_LONGEST : mg "LONGEST" = some (.int 20 t_LONGEST)
  t_MODULUS : Tok
  g_MODULUS : mg "MODULUS" = some (.int 5040 t_MODULUS)
  t_OFFSET : Tok
  g_OFFSET : mg "OFFSET" = some (.int 1000 t_OFFSET)
  t_SIZE : Tok
  g_SIZE : mg "SIZE" = some (.int 1000000000000000000000000000000000000000000000000000000000000000000000000000000000000000000000000000000000000000000000000000000000000000000000000000000 t_SIZE)
  c_InputError : Addr
  g_InputError : mg "InputError" = some (.ref c_InputError)
  n_InputError : MX.nm K "InputError" = c_InputError
  c_InvalidNumber : Addr
  g_InvalidNumber : mg "InvalidNumber" = some (.ref c_InvalidNumber)
  n_InvalidNumber : MX.nm K "InvalidNumber" = c_InvalidNumber
  c_InvalidRatio : Addr
  g_InvalidRatio : mg "InvalidRatio" = some (.ref c_InvalidRatio)
  n_InvalidRatio : MX.nm K "InvalidRatio" = c_InvalidRatio
  c_InvalidShare : Addr
  g_InvalidShare : mg "InvalidShare" = some (.ref c_InvalidShare)
  n_InvalidShare : MX.nm K "InvalidShare" = c_InvalidShare
  c_InvalidName : Addr
  g_InvalidName : mg "InvalidName" = some (.ref c_InvalidName)
  n_InvalidName : MX.nm K "InvalidName" = c_InvalidName
  c_InvalidRows : Addr
  g_InvalidRows : mg "InvalidRows" = some (.ref c_InvalidRows)
  n_InvalidRows : MX.nm K "InvalidRows" = c_InvalidRows
  c_NotRising : Addr
  g_NotRising : mg "NotRising" = some (.ref c_NotRising)
  n_NotRising : MX.nm K "NotRising" = c_NotRising
  c_InvalidLimits : Addr
  g_InvalidLimits : mg "InvalidLimits" = some (.ref c_InvalidLimits)
  n_InvalidLimits : MX.nm K "InvalidLimits" = c_InvalidLimits
  c_InvalidLooks : Addr
  g_InvalidLooks : mg "InvalidLooks" = some (.ref c_InvalidLooks)
  n_InvalidLooks : MX.nm K "InvalidLooks" = c_InvalidLooks
  c_InvalidMarks : Addr
  g_InvalidMarks : mg "InvalidMarks" = some (.ref c_InvalidMarks)
  n_InvalidMarks : MX.nm K "InvalidMarks" = c_InvalidMarks
  c_InvalidState : Addr
  g_InvalidState : mg "InvalidState" = some (.ref c_InvalidState)
  n_InvalidState : MX.nm K "InvalidState" = c_InvalidState
  c_InvalidLines : Addr
  g_InvalidLines : mg "InvalidLines" = some (.ref c_InvalidLines)
  n_InvalidLines : MX.nm K "InvalidLines" = c_InvalidLines
  c_InvalidSize : Addr
  g_InvalidSize : mg "InvalidSize" = some (.ref c_InvalidSize)
  n_InvalidSize : MX.nm K "InvalidSize" = c_InvalidSize
  c_InvalidMarked : Addr
  g_InvalidMarked : mg "InvalidMarked" = some (.ref c_InvalidMarked)
  n_InvalidMarked : MX.nm K "InvalidMarked" = c_InvalidMarked
  c_InvalidSeries : Addr
  g_InvalidSeries : mg "InvalidSeries" = some (.ref c_InvalidSeries)
  n_InvalidSeries : MX.nm K "InvalidSeries" = c_InvalidSeries
  c_InvalidModulus : Addr
  g_InvalidModulus : mg "InvalidModulus" = some (.ref c_InvalidModulus)
  n_InvalidModulus : MX.nm K "InvalidModulus" = c_InvalidModulus
  c_InvalidKeys : Addr
  g_InvalidKeys : mg "InvalidKeys" = some (.ref c_InvalidKeys)
  n_InvalidKeys : MX.nm K "InvalidKeys" = c_InvalidKeys
  c_InvalidLayers : Addr
  g_InvalidLayers : mg "InvalidLayers" = some (.ref c_InvalidLayers)
  n_InvalidLayers : MX.nm K "InvalidLayers" = c_InvalidLayers
  c_InvalidTables : Addr
  g_InvalidTables : mg "InvalidTables" = some (.ref c_InvalidTables)
  n_InvalidTables : MX.nm K "InvalidTables" = c_InvalidTables
  c_InvalidDeeds : Addr
  g_InvalidDeeds : mg "InvalidDeeds" = some (.ref c_InvalidDeeds)
  n_InvalidDeeds : MX.nm K "InvalidDeeds" = c_InvalidDeeds
  c_InvalidText : Addr
  g_InvalidText : mg "InvalidText" = some (.ref c_InvalidText)
  n_InvalidText : MX.nm K "InvalidText" = c_InvalidText
  c_InvalidCommand : Addr
  g_InvalidCommand : mg "InvalidCommand" = some (.ref c_InvalidCommand)
  n_InvalidCommand : MX.nm K "InvalidCommand" = c_InvalidCommand
  c_NotAPlan : Addr
  g_NotAPlan : mg "NotAPlan" = some (.ref c_NotAPlan)
  n_NotAPlan : MX.nm K "NotAPlan" = c_NotAPlan
  c_NotClaims : Addr
  g_NotClaims : mg "NotClaims" = some (.ref c_NotClaims)
  n_NotClaims : MX.nm K "NotClaims" = c_NotClaims
  c_NotFlipped : Addr
  g_NotFlipped : mg "NotFlipped" = some (.ref c_NotFlipped)
  n_NotFlipped : MX.nm K "NotFlipped" = c_NotFlipped
  c_NotATable : Addr
  g_NotATable : mg "NotATable" = some (.ref c_NotATable)
  n_NotATable : MX.nm K "NotATable" = c_NotATable
  c_NotASample : Addr
  g_NotASample : mg "NotASample" = some (.ref c_NotASample)
  n_NotASample : MX.nm K "NotASample" = c_NotASample
  c_StateError : Addr
  g_StateError : mg "StateError" = some (.ref c_StateError)
  n_StateError : MX.nm K "StateError" = c_StateError
  c_UnknownName : Addr
  g_UnknownName : mg "UnknownName" = some (.ref c_UnknownName)
  n_UnknownName : MX.nm K "UnknownName" = c_UnknownName
  c_UnknownRow : Addr
  g_UnknownRow : mg "UnknownRow" = some (.ref c_UnknownRow)
  n_UnknownRow : MX.nm K "UnknownRow" = c_UnknownRow
  c_KnownRow : Addr
  g_KnownRow : mg "KnownRow" = some (.ref c_KnownRow)
  n_KnownRow : MX.nm K "KnownRow" = c_KnownRow
  c_SameRank : Addr
  g_SameRank : mg "SameRank" = some (.ref c_SameRank)
  n_SameRank : MX.nm K "SameRank" = c_SameRank
  c_Contradiction : Addr
  g_Contradiction : mg "Contradiction" = some (.ref c_Contradiction)
  n_Contradiction : MX.nm K "Contradiction" = c_Contradiction
  c_NotHeld : Addr
  g_NotHeld : mg "NotHeld" = some (.ref c_NotHeld)
  n_NotHeld : MX.nm K "NotHeld" = c_NotHeld
  c_Busy : Addr
  g_Busy : mg "Busy" = some (.ref c_Busy)
  n_Busy : MX.nm K "Busy" = c_Busy
  c_NothingToUndo : Addr
  g_NothingToUndo : mg "NothingToUndo" = some (.ref c_NothingToUndo)
  n_NothingToUndo : MX.nm K "NothingToUndo" = c_NothingToUndo
  c_LimitError : Addr
  g_LimitError : mg "LimitError" = some (.ref c_LimitError)
  n_LimitError : MX.nm K "LimitError" = c_LimitError
  c_TooFew : Addr
  g_TooFew : mg "TooFew" = some (.ref c_TooFew)
  n_TooFew : MX.nm K "TooFew" = c_TooFew
  c_TooFine : Addr
  g_TooFine : mg "TooFine" = some (.ref c_TooFine)
  n_TooFine : MX.nm K "TooFine" = c_TooFine
  c_Ratio : Addr
  g_Ratio : mg "Ratio" = some (.ref c_Ratio)
  k_Ratio : OCl K (Str.ofString "Ratio") c_Ratio [(Str.ofString "Ratio")]
  cl_Ratio : Cls K c_Ratio
  na_Ratio_top : NoAttr K c_Ratio (Str.ofString "top")
  na_Ratio_bottom : NoAttr K c_Ratio (Str.ofString "bottom")
  na_Ratio_floor : NoAttr K c_Ratio (Str.ofString "floor")
  a_is_integer : Addr
  fd_is_integer : FuncData
  g_is_integer : mg "is_integer" = some (.ref a_is_integer)
  F_is_integer : Fun K "is_integer" "is_integer" s_is_integer a_is_integer fd_is_integer
  a_Ratio___init__ : Addr
  fd_Ratio___init__ : FuncData
  m_Ratio___init__ : PySem.W.findIn K (.ref c_Ratio) "__init__" = some (some (.ref a_Ratio___init__))
  fn_Ratio___init__ : PySem.W.isFn K (.ref a_Ratio___init__) = true
  F_Ratio___init__ : FunD K "__init__" "Ratio.__init__" (defArgs s_Ratio___init__) (defBody s_Ratio___init__) (defScope s_Ratio___init__) [.int 1] [] a_Ratio___init__ fd_Ratio___init__
  a_Ratio___repr__ : Addr
  fd_Ratio___repr__ : FuncData
  m_Ratio___repr__ : PySem.W.findIn K (.ref c_Ratio) "__repr__" = some (some (.ref a_Ratio___repr__))
  fn_Ratio___repr__ : PySem.W.isFn K (.ref a_Ratio___repr__) = true
  F_Ratio___repr__ : Fun K "__repr__" "Ratio.__repr__" s_Ratio___repr__ a_Ratio___repr__ fd_Ratio___repr__
  a_q_purse : Addr
  fd_q_purse : FuncData
  g_q_purse : mg "_law_purse" = some (.ref a_q_purse)
  F_q_purse : Fun K "_law_purse" "_law_purse" s_q_purse a_q_purse fd_q_purse
  a_q_draw : Addr
  fd_q_draw : FuncData
  g_q_draw : mg "_law_draw" = some (.ref a_q_draw)
  F_q_draw : Fun K "_law_draw" "_law_draw" s_q_draw a_q_draw fd_q_draw
  a_q_first_words : Addr
  fd_q_first_words : FuncData
  g_q_first_words : mg "_law_first_words" = some (.ref a_q_first_words)
  F_q_first_words : Fun K "_law_first_words" "_law_first_words" s_q_first_words a_q_first_words fd_q_first_words
  a_q_words : Addr
  fd_q_words : FuncData
  g_q_words : mg "_law_words" = some (.ref a_q_words)
  F_q_words : Fun K "_law_words" "_law_words" s_q_words a_q_words fd_q_words
  a_q_numbers : Addr
  fd_q_numbers : FuncData
  g_q_numbers : mg "_law_numbers" = some (.ref a_q_numbers)
  F_q_numbers : Fun K "_law_numbers" "_law_numbers" s_q_numbers a_q_numbers fd_q_numbers
  a_q_places : Addr
  fd_q_places : FuncData
  g_q_places : mg "_law_places" = some (.ref a_q_places)
  F_q_places : Fun K "_law_places" "_law_places" s_q_places a_q_places fd_q_places
  a_q_others : Addr
  fd_q_others : FuncData
  g_q_others : mg "_law_others" = some (.ref a_q_others)
  F_q_others : Fun K "_law_others" "_law_others" s_q_others a_q_others fd_q_others
  a_q_states : Addr
  fd_q_states : FuncData
  g_q_states : mg "_law_states" = some (.ref a_q_states)
  F_q_states : Fun K "_law_states" "_law_states" s_q_states a_q_states fd_q_states
  a_q_limits : Addr
  fd_q_limits : FuncData
  g_q_limits : mg "_law_limits" = some (.ref a_q_limits)
  F_q_limits : Fun K "_law_limits" "_law_limits" s_q_limits a_q_limits fd_q_limits
  a_q_all_right : Addr
  fd_q_all_right : FuncData
  g_q_all_right : mg "_law_all_right" = some (.ref a_q_all_right)
  F_q_all_right : Fun K "_law_all_right" "_law_all_right" s_q_all_right a_q_all_right fd_q_all_right
  a_q_right : Addr
  fd_q_right : FuncData
  g_q_right : mg "_law_right" = some (.ref a_q_right)
  F_q_right : Fun K "_law_right" "_law_right" s_q_right a_q_right fd_q_right
  a_law : Addr
  fd_law : FuncData
  F_law : Fun K "law" "law" s_law a_law fd_law
  mk_Ratio : Mk K c_Ratio a_Ratio___init__
  g_gcd : mg "gcd" = some (.builtin "math.gcd")
  cr_Ratio : ClX.CRead K c_Ratio (.type "type")
  kb_Ratio : ∀ m ∈ tys, PySem.W.kitOne K (.ref (MX.nm K (Str.ofString "Ratio"))) (.type m) = some false


  i_InvalidNumber : Addr
  fi_InvalidNumber : FuncData
  he_InvalidNumber : ErrF K (Str.ofString "InvalidNumber") c_InvalidNumber [(Str.ofString "number")]
  hi_InvalidNumber : PySem.W.findIn K (.ref c_InvalidNumber) "__init__" = some (some (.ref i_InvalidNumber))
  ht_InvalidNumber : PySem.W.typeIn K (.ref i_InvalidNumber) = some (.type "function")
  Fi_InvalidNumber : Fun K "__init__" "InvalidNumber.__init__" si_InvalidNumber i_InvalidNumber fi_InvalidNumber
  i_InvalidRatio : Addr
  fi_InvalidRatio : FuncData
  he_InvalidRatio : ErrF K (Str.ofString "InvalidRatio") c_InvalidRatio [(Str.ofString "value")]
  hi_InvalidRatio : PySem.W.findIn K (.ref c_InvalidRatio) "__init__" = some (some (.ref i_InvalidRatio))
  ht_InvalidRatio : PySem.W.typeIn K (.ref i_InvalidRatio) = some (.type "function")
  Fi_InvalidRatio : Fun K "__init__" "InvalidRatio.__init__" si_InvalidRatio i_InvalidRatio fi_InvalidRatio
  i_InvalidShare : Addr
  fi_InvalidShare : FuncData
  he_InvalidShare : ErrF K (Str.ofString "InvalidShare") c_InvalidShare [(Str.ofString "value")]
  hi_InvalidShare : PySem.W.findIn K (.ref c_InvalidShare) "__init__" = some (some (.ref i_InvalidShare))
  ht_InvalidShare : PySem.W.typeIn K (.ref i_InvalidShare) = some (.type "function")
  Fi_InvalidShare : Fun K "__init__" "InvalidShare.__init__" si_InvalidShare i_InvalidShare fi_InvalidShare
  i_InvalidName : Addr
  fi_InvalidName : FuncData
  he_InvalidName : ErrF K (Str.ofString "InvalidName") c_InvalidName [(Str.ofString "name")]
  hi_InvalidName : PySem.W.findIn K (.ref c_InvalidName) "__init__" = some (some (.ref i_InvalidName))
  ht_InvalidName : PySem.W.typeIn K (.ref i_InvalidName) = some (.type "function")
  Fi_InvalidName : Fun K "__init__" "InvalidName.__init__" si_InvalidName i_InvalidName fi_InvalidName
  i_InvalidRows : Addr
  fi_InvalidRows : FuncData
  he_InvalidRows : ErrF K (Str.ofString "InvalidRows") c_InvalidRows [(Str.ofString "index")]
  hi_InvalidRows : PySem.W.findIn K (.ref c_InvalidRows) "__init__" = some (some (.ref i_InvalidRows))
  ht_InvalidRows : PySem.W.typeIn K (.ref i_InvalidRows) = some (.type "function")
  Fi_InvalidRows : Fun K "__init__" "InvalidRows.__init__" si_InvalidRows i_InvalidRows fi_InvalidRows
  i_NotRising : Addr
  fi_NotRising : FuncData
  he_NotRising : ErrF K (Str.ofString "NotRising") c_NotRising [(Str.ofString "marks"), (Str.ofString "place")]
  hi_NotRising : PySem.W.findIn K (.ref c_NotRising) "__init__" = some (some (.ref i_NotRising))
  ht_NotRising : PySem.W.typeIn K (.ref i_NotRising) = some (.type "function")
  Fi_NotRising : Fun K "__init__" "NotRising.__init__" si_NotRising i_NotRising fi_NotRising
  i_InvalidLimits : Addr
  fi_InvalidLimits : FuncData
  he_InvalidLimits : ErrF K (Str.ofString "InvalidLimits") c_InvalidLimits [(Str.ofString "index")]
  hi_InvalidLimits : PySem.W.findIn K (.ref c_InvalidLimits) "__init__" = some (some (.ref i_InvalidLimits))
  ht_InvalidLimits : PySem.W.typeIn K (.ref i_InvalidLimits) = some (.type "function")
  Fi_InvalidLimits : Fun K "__init__" "InvalidLimits.__init__" si_InvalidLimits i_InvalidLimits fi_InvalidLimits
  i_InvalidLooks : Addr
  fi_InvalidLooks : FuncData
  he_InvalidLooks : ErrF K (Str.ofString "InvalidLooks") c_InvalidLooks [(Str.ofString "index")]
  hi_InvalidLooks : PySem.W.findIn K (.ref c_InvalidLooks) "__init__" = some (some (.ref i_InvalidLooks))
  ht_InvalidLooks : PySem.W.typeIn K (.ref i_InvalidLooks) = some (.type "function")
  Fi_InvalidLooks : Fun K "__init__" "InvalidLooks.__init__" si_InvalidLooks i_InvalidLooks fi_InvalidLooks
  i_InvalidMarks : Addr
  fi_InvalidMarks : FuncData
  he_InvalidMarks : ErrF K (Str.ofString "InvalidMarks") c_InvalidMarks [(Str.ofString "index")]
  hi_InvalidMarks : PySem.W.findIn K (.ref c_InvalidMarks) "__init__" = some (some (.ref i_InvalidMarks))
  ht_InvalidMarks : PySem.W.typeIn K (.ref i_InvalidMarks) = some (.type "function")
  Fi_InvalidMarks : Fun K "__init__" "InvalidMarks.__init__" si_InvalidMarks i_InvalidMarks fi_InvalidMarks
  i_InvalidState : Addr
  fi_InvalidState : FuncData
  he_InvalidState : ErrF K (Str.ofString "InvalidState") c_InvalidState [(Str.ofString "state")]
  hi_InvalidState : PySem.W.findIn K (.ref c_InvalidState) "__init__" = some (some (.ref i_InvalidState))
  ht_InvalidState : PySem.W.typeIn K (.ref i_InvalidState) = some (.type "function")
  Fi_InvalidState : Fun K "__init__" "InvalidState.__init__" si_InvalidState i_InvalidState fi_InvalidState
  i_InvalidLines : Addr
  fi_InvalidLines : FuncData
  he_InvalidLines : ErrF K (Str.ofString "InvalidLines") c_InvalidLines [(Str.ofString "index")]
  hi_InvalidLines : PySem.W.findIn K (.ref c_InvalidLines) "__init__" = some (some (.ref i_InvalidLines))
  ht_InvalidLines : PySem.W.typeIn K (.ref i_InvalidLines) = some (.type "function")
  Fi_InvalidLines : Fun K "__init__" "InvalidLines.__init__" si_InvalidLines i_InvalidLines fi_InvalidLines
  i_InvalidSize : Addr
  fi_InvalidSize : FuncData
  he_InvalidSize : ErrF K (Str.ofString "InvalidSize") c_InvalidSize [(Str.ofString "value")]
  hi_InvalidSize : PySem.W.findIn K (.ref c_InvalidSize) "__init__" = some (some (.ref i_InvalidSize))
  ht_InvalidSize : PySem.W.typeIn K (.ref i_InvalidSize) = some (.type "function")
  Fi_InvalidSize : Fun K "__init__" "InvalidSize.__init__" si_InvalidSize i_InvalidSize fi_InvalidSize
  i_InvalidMarked : Addr
  fi_InvalidMarked : FuncData
  he_InvalidMarked : ErrF K (Str.ofString "InvalidMarked") c_InvalidMarked [(Str.ofString "value")]
  hi_InvalidMarked : PySem.W.findIn K (.ref c_InvalidMarked) "__init__" = some (some (.ref i_InvalidMarked))
  ht_InvalidMarked : PySem.W.typeIn K (.ref i_InvalidMarked) = some (.type "function")
  Fi_InvalidMarked : Fun K "__init__" "InvalidMarked.__init__" si_InvalidMarked i_InvalidMarked fi_InvalidMarked
  i_InvalidSeries : Addr
  fi_InvalidSeries : FuncData
  he_InvalidSeries : ErrF K (Str.ofString "InvalidSeries") c_InvalidSeries [(Str.ofString "index")]
  hi_InvalidSeries : PySem.W.findIn K (.ref c_InvalidSeries) "__init__" = some (some (.ref i_InvalidSeries))
  ht_InvalidSeries : PySem.W.typeIn K (.ref i_InvalidSeries) = some (.type "function")
  Fi_InvalidSeries : Fun K "__init__" "InvalidSeries.__init__" si_InvalidSeries i_InvalidSeries fi_InvalidSeries
  i_InvalidModulus : Addr
  fi_InvalidModulus : FuncData
  he_InvalidModulus : ErrF K (Str.ofString "InvalidModulus") c_InvalidModulus [(Str.ofString "value")]
  hi_InvalidModulus : PySem.W.findIn K (.ref c_InvalidModulus) "__init__" = some (some (.ref i_InvalidModulus))
  ht_InvalidModulus : PySem.W.typeIn K (.ref i_InvalidModulus) = some (.type "function")
  Fi_InvalidModulus : Fun K "__init__" "InvalidModulus.__init__" si_InvalidModulus i_InvalidModulus fi_InvalidModulus
  i_InvalidKeys : Addr
  fi_InvalidKeys : FuncData
  he_InvalidKeys : ErrF K (Str.ofString "InvalidKeys") c_InvalidKeys [(Str.ofString "index")]
  hi_InvalidKeys : PySem.W.findIn K (.ref c_InvalidKeys) "__init__" = some (some (.ref i_InvalidKeys))
  ht_InvalidKeys : PySem.W.typeIn K (.ref i_InvalidKeys) = some (.type "function")
  Fi_InvalidKeys : Fun K "__init__" "InvalidKeys.__init__" si_InvalidKeys i_InvalidKeys fi_InvalidKeys
  i_InvalidLayers : Addr
  fi_InvalidLayers : FuncData
  he_InvalidLayers : ErrF K (Str.ofString "InvalidLayers") c_InvalidLayers [(Str.ofString "index")]
  hi_InvalidLayers : PySem.W.findIn K (.ref c_InvalidLayers) "__init__" = some (some (.ref i_InvalidLayers))
  ht_InvalidLayers : PySem.W.typeIn K (.ref i_InvalidLayers) = some (.type "function")
  Fi_InvalidLayers : Fun K "__init__" "InvalidLayers.__init__" si_InvalidLayers i_InvalidLayers fi_InvalidLayers
  i_InvalidTables : Addr
  fi_InvalidTables : FuncData
  he_InvalidTables : ErrF K (Str.ofString "InvalidTables") c_InvalidTables [(Str.ofString "name")]
  hi_InvalidTables : PySem.W.findIn K (.ref c_InvalidTables) "__init__" = some (some (.ref i_InvalidTables))
  ht_InvalidTables : PySem.W.typeIn K (.ref i_InvalidTables) = some (.type "function")
  Fi_InvalidTables : Fun K "__init__" "InvalidTables.__init__" si_InvalidTables i_InvalidTables fi_InvalidTables
  i_InvalidDeeds : Addr
  fi_InvalidDeeds : FuncData
  he_InvalidDeeds : ErrF K (Str.ofString "InvalidDeeds") c_InvalidDeeds [(Str.ofString "index")]
  hi_InvalidDeeds : PySem.W.findIn K (.ref c_InvalidDeeds) "__init__" = some (some (.ref i_InvalidDeeds))
  ht_InvalidDeeds : PySem.W.typeIn K (.ref i_InvalidDeeds) = some (.type "function")
  Fi_InvalidDeeds : Fun K "__init__" "InvalidDeeds.__init__" si_InvalidDeeds i_InvalidDeeds fi_InvalidDeeds
  i_InvalidText : Addr
  fi_InvalidText : FuncData
  he_InvalidText : ErrF K (Str.ofString "InvalidText") c_InvalidText [(Str.ofString "text")]
  hi_InvalidText : PySem.W.findIn K (.ref c_InvalidText) "__init__" = some (some (.ref i_InvalidText))
  ht_InvalidText : PySem.W.typeIn K (.ref i_InvalidText) = some (.type "function")
  Fi_InvalidText : Fun K "__init__" "InvalidText.__init__" si_InvalidText i_InvalidText fi_InvalidText
  i_InvalidCommand : Addr
  fi_InvalidCommand : FuncData
  he_InvalidCommand : ErrF K (Str.ofString "InvalidCommand") c_InvalidCommand [(Str.ofString "command")]
  hi_InvalidCommand : PySem.W.findIn K (.ref c_InvalidCommand) "__init__" = some (some (.ref i_InvalidCommand))
  ht_InvalidCommand : PySem.W.typeIn K (.ref i_InvalidCommand) = some (.type "function")
  Fi_InvalidCommand : Fun K "__init__" "InvalidCommand.__init__" si_InvalidCommand i_InvalidCommand fi_InvalidCommand
  i_NotAPlan : Addr
  fi_NotAPlan : FuncData
  he_NotAPlan : ErrF K (Str.ofString "NotAPlan") c_NotAPlan [(Str.ofString "value")]
  hi_NotAPlan : PySem.W.findIn K (.ref c_NotAPlan) "__init__" = some (some (.ref i_NotAPlan))
  ht_NotAPlan : PySem.W.typeIn K (.ref i_NotAPlan) = some (.type "function")
  Fi_NotAPlan : Fun K "__init__" "NotAPlan.__init__" si_NotAPlan i_NotAPlan fi_NotAPlan
  i_NotClaims : Addr
  fi_NotClaims : FuncData
  he_NotClaims : ErrF K (Str.ofString "NotClaims") c_NotClaims [(Str.ofString "value")]
  hi_NotClaims : PySem.W.findIn K (.ref c_NotClaims) "__init__" = some (some (.ref i_NotClaims))
  ht_NotClaims : PySem.W.typeIn K (.ref i_NotClaims) = some (.type "function")
  Fi_NotClaims : Fun K "__init__" "NotClaims.__init__" si_NotClaims i_NotClaims fi_NotClaims
  i_NotFlipped : Addr
  fi_NotFlipped : FuncData
  he_NotFlipped : ErrF K (Str.ofString "NotFlipped") c_NotFlipped [(Str.ofString "found")]
  hi_NotFlipped : PySem.W.findIn K (.ref c_NotFlipped) "__init__" = some (some (.ref i_NotFlipped))
  ht_NotFlipped : PySem.W.typeIn K (.ref i_NotFlipped) = some (.type "function")
  Fi_NotFlipped : Fun K "__init__" "NotFlipped.__init__" si_NotFlipped i_NotFlipped fi_NotFlipped
  i_NotATable : Addr
  fi_NotATable : FuncData
  he_NotATable : ErrF K (Str.ofString "NotATable") c_NotATable [(Str.ofString "value")]
  hi_NotATable : PySem.W.findIn K (.ref c_NotATable) "__init__" = some (some (.ref i_NotATable))
  ht_NotATable : PySem.W.typeIn K (.ref i_NotATable) = some (.type "function")
  Fi_NotATable : Fun K "__init__" "NotATable.__init__" si_NotATable i_NotATable fi_NotATable
  i_NotASample : Addr
  fi_NotASample : FuncData
  he_NotASample : ErrF K (Str.ofString "NotASample") c_NotASample [(Str.ofString "value")]
  hi_NotASample : PySem.W.findIn K (.ref c_NotASample) "__init__" = some (some (.ref i_NotASample))
  ht_NotASample : PySem.W.typeIn K (.ref i_NotASample) = some (.type "function")
  Fi_NotASample : Fun K "__init__" "NotASample.__init__" si_NotASample i_NotASample fi_NotASample
  i_UnknownName : Addr
  fi_UnknownName : FuncData
  he_UnknownName : ErrF K (Str.ofString "UnknownName") c_UnknownName [(Str.ofString "name")]
  hi_UnknownName : PySem.W.findIn K (.ref c_UnknownName) "__init__" = some (some (.ref i_UnknownName))
  ht_UnknownName : PySem.W.typeIn K (.ref i_UnknownName) = some (.type "function")
  Fi_UnknownName : Fun K "__init__" "UnknownName.__init__" si_UnknownName i_UnknownName fi_UnknownName
  i_UnknownRow : Addr
  fi_UnknownRow : FuncData
  he_UnknownRow : ErrF K (Str.ofString "UnknownRow") c_UnknownRow [(Str.ofString "key")]
  hi_UnknownRow : PySem.W.findIn K (.ref c_UnknownRow) "__init__" = some (some (.ref i_UnknownRow))
  ht_UnknownRow : PySem.W.typeIn K (.ref i_UnknownRow) = some (.type "function")
  Fi_UnknownRow : Fun K "__init__" "UnknownRow.__init__" si_UnknownRow i_UnknownRow fi_UnknownRow
  i_KnownRow : Addr
  fi_KnownRow : FuncData
  he_KnownRow : ErrF K (Str.ofString "KnownRow") c_KnownRow [(Str.ofString "key")]
  hi_KnownRow : PySem.W.findIn K (.ref c_KnownRow) "__init__" = some (some (.ref i_KnownRow))
  ht_KnownRow : PySem.W.typeIn K (.ref i_KnownRow) = some (.type "function")
  Fi_KnownRow : Fun K "__init__" "KnownRow.__init__" si_KnownRow i_KnownRow fi_KnownRow
  i_SameRank : Addr
  fi_SameRank : FuncData
  he_SameRank : ErrF K (Str.ofString "SameRank") c_SameRank [(Str.ofString "rank")]
  hi_SameRank : PySem.W.findIn K (.ref c_SameRank) "__init__" = some (some (.ref i_SameRank))
  ht_SameRank : PySem.W.typeIn K (.ref i_SameRank) = some (.type "function")
  Fi_SameRank : Fun K "__init__" "SameRank.__init__" si_SameRank i_SameRank fi_SameRank
  i_Contradiction : Addr
  fi_Contradiction : FuncData
  he_Contradiction : ErrF K (Str.ofString "Contradiction") c_Contradiction [(Str.ofString "key")]
  hi_Contradiction : PySem.W.findIn K (.ref c_Contradiction) "__init__" = some (some (.ref i_Contradiction))
  ht_Contradiction : PySem.W.typeIn K (.ref i_Contradiction) = some (.type "function")
  Fi_Contradiction : Fun K "__init__" "Contradiction.__init__" si_Contradiction i_Contradiction fi_Contradiction
  i_NotHeld : Addr
  fi_NotHeld : FuncData
  he_NotHeld : ErrF K (Str.ofString "NotHeld") c_NotHeld [(Str.ofString "found")]
  hi_NotHeld : PySem.W.findIn K (.ref c_NotHeld) "__init__" = some (some (.ref i_NotHeld))
  ht_NotHeld : PySem.W.typeIn K (.ref i_NotHeld) = some (.type "function")
  Fi_NotHeld : Fun K "__init__" "NotHeld.__init__" si_NotHeld i_NotHeld fi_NotHeld
  i_TooFew : Addr
  fi_TooFew : FuncData
  he_TooFew : ErrF K (Str.ofString "TooFew") c_TooFew [(Str.ofString "looked")]
  hi_TooFew : PySem.W.findIn K (.ref c_TooFew) "__init__" = some (some (.ref i_TooFew))
  ht_TooFew : PySem.W.typeIn K (.ref i_TooFew) = some (.type "function")
  Fi_TooFew : Fun K "__init__" "TooFew.__init__" si_TooFew i_TooFew fi_TooFew
  i_TooFine : Addr
  fi_TooFine : FuncData
  he_TooFine : ErrF K (Str.ofString "TooFine") c_TooFine [(Str.ofString "found")]
  hi_TooFine : PySem.W.findIn K (.ref c_TooFine) "__init__" = some (some (.ref i_TooFine))
  ht_TooFine : PySem.W.typeIn K (.ref i_TooFine) = some (.type "function")
  Fi_TooFine : Fun K "__init__" "TooFine.__init__" si_TooFine i_TooFine fi_TooFine
  hq_Busy : PySem.W.excIn K c_Busy [.type "LookupError", .type "Exception", .type "BaseException", .type "object"] "LookupError.__new__" = true
  hk_Busy : PySem.W.keepIn K (.ref c_Busy) = true
  hq_NothingToUndo : PySem.W.excIn K c_NothingToUndo [.type "LookupError", .type "Exception", .type "BaseException", .type "object"] "LookupError.__new__" = true
  hk_NothingToUndo : PySem.W.keepIn K (.ref c_NothingToUndo) = true
  hIs : ∀ C, tabH colsH TBH C ≠ [] → ExcC K (MX.nm K C) ∧ ∀ r ∈ tabH colsH TBH C, PySem.W.kitOne K (.ref (MX.nm K C)) (r.1.val K) = some r.2
section
variable [TabL] {P : Program} {w : World} {K : PySem.W.Frag} {mg : Str → Option Value} {base : Heap}
structure Bx (T : Txt K mg) (base : Heap) : Prop where
  sys : GX.SysB base
theorem b_is_integer (T : Txt K mg) : Binds K T.fd_is_integer ["value"] [] := T.F_is_integer.binds fun _ _ _ _ _ _ us hl => match us, hl with | [_], _ => rfl
theorem b_Ratio___init__ (T : Txt K mg) : Binds K T.fd_Ratio___init__ ["self", "top", "bottom"] [] := by
  obtain ⟨ds, r, b⟩ := T.F_Ratio___init__.binds1 (ps := ["self", "top", "bottom"]) 3 1 (by simp) rfl (fun T kV doc pm an cdv ct us its h1 h2 => by
    match us, its, h1, h2 with
    | [_, _, _], [_], _, _ => exact ⟨_, rfl, rfl⟩)
  cases r
  exact b
theorem b_Ratio___repr__ (T : Txt K mg) : Binds K T.fd_Ratio___repr__ ["self"] [] := T.F_Ratio___repr__.binds fun _ _ _ _ _ _ us hl => match us, hl with | [_], _ => rfl
theorem b_q_purse (T : Txt K mg) : Binds K T.fd_q_purse ["_law_script", "_law_spot"] [] := T.F_q_purse.binds fun _ _ _ _ _ _ us hl => match us, hl with | [_, _], _ => rfl
theorem b_q_draw (T : Txt K mg) : Binds K T.fd_q_draw ["_law_purse_here", "_law_many"] [] := T.F_q_draw.binds fun _ _ _ _ _ _ us hl => match us, hl with | [_, _], _ => rfl
theorem b_q_first_words (T : Txt K mg) : Binds K T.fd_q_first_words ["_law_e"] [] := T.F_q_first_words.binds fun _ _ _ _ _ _ us hl => match us, hl with | [_], _ => rfl
theorem b_q_words (T : Txt K mg) : Binds K T.fd_q_words ["_law_e"] [] := T.F_q_words.binds fun _ _ _ _ _ _ us hl => match us, hl with | [_], _ => rfl
theorem b_q_numbers (T : Txt K mg) : Binds K T.fd_q_numbers ["_law_thing"] [] := T.F_q_numbers.binds fun _ _ _ _ _ _ us hl => match us, hl with | [_], _ => rfl
theorem b_q_places (T : Txt K mg) : Binds K T.fd_q_places ["_law_thing"] [] := T.F_q_places.binds fun _ _ _ _ _ _ us hl => match us, hl with | [_], _ => rfl
theorem b_q_others (T : Txt K mg) : Binds K T.fd_q_others ["_law_thing"] [] := T.F_q_others.binds fun _ _ _ _ _ _ us hl => match us, hl with | [_], _ => rfl
theorem b_q_states (T : Txt K mg) : Binds K T.fd_q_states ["_law_thing"] [] := T.F_q_states.binds fun _ _ _ _ _ _ us hl => match us, hl with | [_], _ => rfl
theorem b_q_limits (T : Txt K mg) : Binds K T.fd_q_limits ["_law_thing"] [] := T.F_q_limits.binds fun _ _ _ _ _ _ us hl => match us, hl with | [_], _ => rfl
theorem b_q_all_right (T : Txt K mg) : Binds K T.fd_q_all_right ["_law_some", "_law_above", "_law_thing"] [] := T.F_q_all_right.binds fun _ _ _ _ _ _ us hl => match us, hl with | [_, _, _], _ => rfl
theorem b_q_right (T : Txt K mg) : Binds K T.fd_q_right ["_law_purse_here"] [] := T.F_q_right.binds fun _ _ _ _ _ _ us hl => match us, hl with | [_], _ => rfl
theorem bi_InvalidNumber (T : Txt K mg) : Binds K T.fi_InvalidNumber ["self", "number"] [] := T.Fi_InvalidNumber.binds fun _ _ _ _ _ _ us hl => match us, hl with | [_, _], _ => rfl
theorem bi_InvalidRatio (T : Txt K mg) : Binds K T.fi_InvalidRatio ["self", "value"] [] := T.Fi_InvalidRatio.binds fun _ _ _ _ _ _ us hl => match us, hl with | [_, _], _ => rfl
theorem bi_InvalidShare (T : Txt K mg) : Binds K T.fi_InvalidShare ["self", "value"] [] := T.Fi_InvalidShare.binds fun _ _ _ _ _ _ us hl => match us, hl with | [_, _], _ => rfl
theorem bi_InvalidName (T : Txt K mg) : Binds K T.fi_InvalidName ["self", "name"] [] := T.Fi_InvalidName.binds fun _ _ _ _ _ _ us hl => match us, hl with | [_, _], _ => rfl
theorem bi_InvalidRows (T : Txt K mg) : Binds K T.fi_InvalidRows ["self", "index"] [] := T.Fi_InvalidRows.binds fun _ _ _ _ _ _ us hl => match us, hl with | [_, _], _ => rfl
theorem bi_NotRising (T : Txt K mg) : Binds K T.fi_NotRising ["self", "marks", "place"] [] := T.Fi_NotRising.binds fun _ _ _ _ _ _ us hl => match us, hl with | [_, _, _], _ => rfl
theorem bi_InvalidLimits (T : Txt K mg) : Binds K T.fi_InvalidLimits ["self", "index"] [] := T.Fi_InvalidLimits.binds fun _ _ _ _ _ _ us hl => match us, hl with | [_, _], _ => rfl
theorem bi_InvalidLooks (T : Txt K mg) : Binds K T.fi_InvalidLooks ["self", "index"] [] := T.Fi_InvalidLooks.binds fun _ _ _ _ _ _ us hl => match us, hl with | [_, _], _ => rfl
theorem bi_InvalidMarks (T : Txt K mg) : Binds K T.fi_InvalidMarks ["self", "index"] [] := T.Fi_InvalidMarks.binds fun _ _ _ _ _ _ us hl => match us, hl with | [_, _], _ => rfl
theorem bi_InvalidState (T : Txt K mg) : Binds K T.fi_InvalidState ["self", "state"] [] := T.Fi_InvalidState.binds fun _ _ _ _ _ _ us hl => match us, hl with | [_, _], _ => rfl
theorem bi_InvalidLines (T : Txt K mg) : Binds K T.fi_InvalidLines ["self", "index"] [] := T.Fi_InvalidLines.binds fun _ _ _ _ _ _ us hl => match us, hl with | [_, _], _ => rfl
theorem bi_InvalidSize (T : Txt K mg) : Binds K T.fi_InvalidSize ["self", "value"] [] := T.Fi_InvalidSize.binds fun _ _ _ _ _ _ us hl => match us, hl with | [_, _], _ => rfl
theorem bi_InvalidMarked (T : Txt K mg) : Binds K T.fi_InvalidMarked ["self", "value"] [] := T.Fi_InvalidMarked.binds fun _ _ _ _ _ _ us hl => match us, hl with | [_, _], _ => rfl
theorem bi_InvalidSeries (T : Txt K mg) : Binds K T.fi_InvalidSeries ["self", "index"] [] := T.Fi_InvalidSeries.binds fun _ _ _ _ _ _ us hl => match us, hl with | [_, _], _ => rfl
theorem bi_InvalidModulus (T : Txt K mg) : Binds K T.fi_InvalidModulus ["self", "value"] [] := T.Fi_InvalidModulus.binds fun _ _ _ _ _ _ us hl => match us, hl with | [_, _], _ => rfl
theorem bi_InvalidKeys (T : Txt K mg) : Binds K T.fi_InvalidKeys ["self", "index"] [] := T.Fi_InvalidKeys.binds fun _ _ _ _ _ _ us hl => match us, hl with | [_, _], _ => rfl
theorem bi_InvalidLayers (T : Txt K mg) : Binds K T.fi_InvalidLayers ["self", "index"] [] := T.Fi_InvalidLayers.binds fun _ _ _ _ _ _ us hl => match us, hl with | [_, _], _ => rfl
theorem bi_InvalidTables (T : Txt K mg) : Binds K T.fi_InvalidTables ["self", "name"] [] := T.Fi_InvalidTables.binds fun _ _ _ _ _ _ us hl => match us, hl with | [_, _], _ => rfl
theorem bi_InvalidDeeds (T : Txt K mg) : Binds K T.fi_InvalidDeeds ["self", "index"] [] := T.Fi_InvalidDeeds.binds fun _ _ _ _ _ _ us hl => match us, hl with | [_, _], _ => rfl
theorem bi_InvalidText (T : Txt K mg) : Binds K T.fi_InvalidText ["self", "text"] [] := T.Fi_InvalidText.binds fun _ _ _ _ _ _ us hl => match us, hl with | [_, _], _ => rfl
theorem bi_InvalidCommand (T : Txt K mg) : Binds K T.fi_InvalidCommand ["self", "command"] [] := T.Fi_InvalidCommand.binds fun _ _ _ _ _ _ us hl => match us, hl with | [_, _], _ => rfl
theorem bi_NotAPlan (T : Txt K mg) : Binds K T.fi_NotAPlan ["self", "value"] [] := T.Fi_NotAPlan.binds fun _ _ _ _ _ _ us hl => match us, hl with | [_, _], _ => rfl
theorem bi_NotClaims (T : Txt K mg) : Binds K T.fi_NotClaims ["self", "value"] [] := T.Fi_NotClaims.binds fun _ _ _ _ _ _ us hl => match us, hl with | [_, _], _ => rfl
theorem bi_NotFlipped (T : Txt K mg) : Binds K T.fi_NotFlipped ["self", "found"] [] := T.Fi_NotFlipped.binds fun _ _ _ _ _ _ us hl => match us, hl with | [_, _], _ => rfl
theorem bi_NotATable (T : Txt K mg) : Binds K T.fi_NotATable ["self", "value"] [] := T.Fi_NotATable.binds fun _ _ _ _ _ _ us hl => match us, hl with | [_, _], _ => rfl
theorem bi_NotASample (T : Txt K mg) : Binds K T.fi_NotASample ["self", "value"] [] := T.Fi_NotASample.binds fun _ _ _ _ _ _ us hl => match us, hl with | [_, _], _ => rfl
theorem bi_UnknownName (T : Txt K mg) : Binds K T.fi_UnknownName ["self", "name"] [] := T.Fi_UnknownName.binds fun _ _ _ _ _ _ us hl => match us, hl with | [_, _], _ => rfl
theorem bi_UnknownRow (T : Txt K mg) : Binds K T.fi_UnknownRow ["self", "key"] [] := T.Fi_UnknownRow.binds fun _ _ _ _ _ _ us hl => match us, hl with | [_, _], _ => rfl
theorem bi_KnownRow (T : Txt K mg) : Binds K T.fi_KnownRow ["self", "key"] [] := T.Fi_KnownRow.binds fun _ _ _ _ _ _ us hl => match us, hl with | [_, _], _ => rfl
theorem bi_SameRank (T : Txt K mg) : Binds K T.fi_SameRank ["self", "rank"] [] := T.Fi_SameRank.binds fun _ _ _ _ _ _ us hl => match us, hl with | [_, _], _ => rfl
theorem bi_Contradiction (T : Txt K mg) : Binds K T.fi_Contradiction ["self", "key"] [] := T.Fi_Contradiction.binds fun _ _ _ _ _ _ us hl => match us, hl with | [_, _], _ => rfl
theorem bi_NotHeld (T : Txt K mg) : Binds K T.fi_NotHeld ["self", "found"] [] := T.Fi_NotHeld.binds fun _ _ _ _ _ _ us hl => match us, hl with | [_, _], _ => rfl
theorem bi_TooFew (T : Txt K mg) : Binds K T.fi_TooFew ["self", "looked"] [] := T.Fi_TooFew.binds fun _ _ _ _ _ _ us hl => match us, hl with | [_, _], _ => rfl
theorem bi_TooFine (T : Txt K mg) : Binds K T.fi_TooFine ["self", "found"] [] := T.Fi_TooFine.binds fun _ _ _ _ _ _ us hl => match us, hl with | [_, _], _ => rfl
end
end K24
set_option Elab.async false
set_option linter.all false
set_option maxRecDepth 100000
set_option maxHeartbeats 4000000
namespace K24
open PySem PySem.Spec PyProof.Rows L2 GX EN MX Pg
section
variable [TabL] {P : Program} {w : World} {K : PySem.W.Frag} {mg : Str → Option Value} {base : Heap}
theorem hx_InvalidNumber (T : Txt K mg) : XfC K (MX.nm K (Str.ofString "InvalidNumber")) := by
  rw [T.he_InvalidNumber.nm]
  exact T.he_InvalidNumber.xf
theorem hn_InvalidNumber_number (T : Txt K mg) : PySem.W.findIn K (.ref (MX.nm K (Str.ofString "InvalidNumber"))) (Str.ofString "number") = some none := by
  rw [T.he_InvalidNumber.nm]
  exact T.he_InvalidNumber.no _ (by simp)
theorem oki_InvalidNumber (T : Txt K mg) : FnOk P w K mg base CX0 1 T.i_InvalidNumber T.fi_InvalidNumber ["self", "number"] (spXI T.c_InvalidNumber (Str.ofString "number")) := by
  refine T.Fi_InvalidNumber.ok sci_InvalidNumber (fun vs H Q E h => ?_) (fun cdv A outer s H vs Q E hr h => ?_)
  · obtain ⟨a, v, rfl, _⟩ := h
    rfl
  · obtain ⟨a, v, rfl, ha, q⟩ := h
    exact ⟨_, pss_one (ps_fst (pv 0) (pv 1)), _, rfl, _, rfl, a, T.c_InvalidNumber, rfl, T.he_InvalidNumber.oex, T.he_InvalidNumber.no _ (by simp), ha, fun dx n ne => q dx n ne⟩
theorem hx_InvalidRatio (T : Txt K mg) : XfC K (MX.nm K (Str.ofString "InvalidRatio")) := by
  rw [T.he_InvalidRatio.nm]
  exact T.he_InvalidRatio.xf
theorem hn_InvalidRatio_value (T : Txt K mg) : PySem.W.findIn K (.ref (MX.nm K (Str.ofString "InvalidRatio"))) (Str.ofString "value") = some none := by
  rw [T.he_InvalidRatio.nm]
  exact T.he_InvalidRatio.no _ (by simp)
theorem oki_InvalidRatio (T : Txt K mg) : FnOk P w K mg base CX0 1 T.i_InvalidRatio T.fi_InvalidRatio ["self", "value"] (spXI T.c_InvalidRatio (Str.ofString "value")) := by
  refine T.Fi_InvalidRatio.ok sci_InvalidRatio (fun vs H Q E h => ?_) (fun cdv A outer s H vs Q E hr h => ?_)
  · obtain ⟨a, v, rfl, _⟩ := h
    rfl
  · obtain ⟨a, v, rfl, ha, q⟩ := h
    exact ⟨_, pss_one (ps_fst (pv 0) (pv 1)), _, rfl, _, rfl, a, T.c_InvalidRatio, rfl, T.he_InvalidRatio.oex, T.he_InvalidRatio.no _ (by simp), ha, fun dx n ne => q dx n ne⟩
theorem hx_InvalidShare (T : Txt K mg) : XfC K (MX.nm K (Str.ofString "InvalidShare")) := by
  rw [T.he_InvalidShare.nm]
  exact T.he_InvalidShare.xf
theorem hn_InvalidShare_value (T : Txt K mg) : PySem.W.findIn K (.ref (MX.nm K (Str.ofString "InvalidShare"))) (Str.ofString "value") = some none := by
  rw [T.he_InvalidShare.nm]
  exact T.he_InvalidShare.no _ (by simp)
theorem oki_InvalidShare (T : Txt K mg) : FnOk P w K mg base CX0 1 T.i_InvalidShare T.fi_InvalidShare ["self", "value"] (spXI T.c_InvalidShare (Str.ofString "value")) := by
  refine T.Fi_InvalidShare.ok sci_InvalidShare (fun vs H Q E h => ?_) (fun cdv A outer s H vs Q E hr h => ?_)
  · obtain ⟨a, v, rfl, _⟩ := h
    rfl
  · obtain ⟨a, v, rfl, ha, q⟩ := h
    exact ⟨_, pss_one (ps_fst (pv 0) (pv 1)), _, rfl, _, rfl, a, T.c_InvalidShare, rfl, T.he_InvalidShare.oex, T.he_InvalidShare.no _ (by simp), ha, fun dx n ne => q dx n ne⟩
theorem hx_InvalidName (T : Txt K mg) : XfC K (MX.nm K (Str.ofString "InvalidName")) := by
  rw [T.he_InvalidName.nm]
  exact T.he_InvalidName.xf
theorem hn_InvalidName_name (T : Txt K mg) : PySem.W.findIn K (.ref (MX.nm K (Str.ofString "InvalidName"))) (Str.ofString "name") = some none := by
  rw [T.he_InvalidName.nm]
  exact T.he_InvalidName.no _ (by simp)
theorem oki_InvalidName (T : Txt K mg) : FnOk P w K mg base CX0 1 T.i_InvalidName T.fi_InvalidName ["self", "name"] (spXI T.c_InvalidName (Str.ofString "name")) := by
  refine T.Fi_InvalidName.ok sci_InvalidName (fun vs H Q E h => ?_) (fun cdv A outer s H vs Q E hr h => ?_)
  · obtain ⟨a, v, rfl, _⟩ := h
    rfl
  · obtain ⟨a, v, rfl, ha, q⟩ := h
    exact ⟨_, pss_one (ps_fst (pv 0) (pv 1)), _, rfl, _, rfl, a, T.c_InvalidName, rfl, T.he_InvalidName.oex, T.he_InvalidName.no _ (by simp), ha, fun dx n ne => q dx n ne⟩
theorem hx_InvalidRows (T : Txt K mg) : XfC K (MX.nm K (Str.ofString "InvalidRows")) := by
  rw [T.he_InvalidRows.nm]
  exact T.he_InvalidRows.xf
theorem hn_InvalidRows_index (T : Txt K mg) : PySem.W.findIn K (.ref (MX.nm K (Str.ofString "InvalidRows"))) (Str.ofString "index") = some none := by
  rw [T.he_InvalidRows.nm]
  exact T.he_InvalidRows.no _ (by simp)
theorem oki_InvalidRows (T : Txt K mg) : FnOk P w K mg base CX0 1 T.i_InvalidRows T.fi_InvalidRows ["self", "index"] (spXI T.c_InvalidRows (Str.ofString "index")) := by
  refine T.Fi_InvalidRows.ok sci_InvalidRows (fun vs H Q E h => ?_) (fun cdv A outer s H vs Q E hr h => ?_)
  · obtain ⟨a, v, rfl, _⟩ := h
    rfl
  · obtain ⟨a, v, rfl, ha, q⟩ := h
    exact ⟨_, pss_one (ps_fst (pv 0) (pv 1)), _, rfl, _, rfl, a, T.c_InvalidRows, rfl, T.he_InvalidRows.oex, T.he_InvalidRows.no _ (by simp), ha, fun dx n ne => q dx n ne⟩
theorem hx_NotRising (T : Txt K mg) : XfC K (MX.nm K (Str.ofString "NotRising")) := by
  rw [T.he_NotRising.nm]
  exact T.he_NotRising.xf
theorem hn_NotRising_marks (T : Txt K mg) : PySem.W.findIn K (.ref (MX.nm K (Str.ofString "NotRising"))) (Str.ofString "marks") = some none := by
  rw [T.he_NotRising.nm]
  exact T.he_NotRising.no _ (by simp)
theorem hn_NotRising_place (T : Txt K mg) : PySem.W.findIn K (.ref (MX.nm K (Str.ofString "NotRising"))) (Str.ofString "place") = some none := by
  rw [T.he_NotRising.nm]
  exact T.he_NotRising.no _ (by simp)
theorem oki_NotRising (T : Txt K mg) : FnOk P w K mg base CX0 1 T.i_NotRising T.fi_NotRising ["self", "marks", "place"] (spXI2 T.c_NotRising (Str.ofString "marks") (Str.ofString "place")) := by
  refine T.Fi_NotRising.ok sci_NotRising (fun vs H Q E h => ?_) (fun cdv A outer s H vs Q E hr h => ?_)
  · obtain ⟨a, v, u, rfl, _⟩ := h
    rfl
  · obtain ⟨a, v, u, rfl, ha, q⟩ := h
    exact ⟨_, pss_cons (ps_fst (pv 0) (pv 1)) (pss_one (ps_lat (pv 0) (pv 2))), _, rfl, _, rfl, a, T.c_NotRising, rfl, T.he_NotRising.oex, T.he_NotRising.no _ (by simp), ha, fun dx n ne => ⟨_, rfl, _, rfl, a, T.c_NotRising, dx, [(_, v)], rfl, T.he_NotRising.oex, T.he_NotRising.no _ (by simp), upd_same, by rw [upd_ne ne]; exact upd_same, by show 1 ≤ 900; decide, q dx n ne⟩⟩
theorem hx_InvalidLimits (T : Txt K mg) : XfC K (MX.nm K (Str.ofString "InvalidLimits")) := by
  rw [T.he_InvalidLimits.nm]
  exact T.he_InvalidLimits.xf
theorem hn_InvalidLimits_index (T : Txt K mg) : PySem.W.findIn K (.ref (MX.nm K (Str.ofString "InvalidLimits"))) (Str.ofString "index") = some none := by
  rw [T.he_InvalidLimits.nm]
  exact T.he_InvalidLimits.no _ (by simp)
theorem oki_InvalidLimits (T : Txt K mg) : FnOk P w K mg base CX0 1 T.i_InvalidLimits T.fi_InvalidLimits ["self", "index"] (spXI T.c_InvalidLimits (Str.ofString "index")) := by
  refine T.Fi_InvalidLimits.ok sci_InvalidLimits (fun vs H Q E h => ?_) (fun cdv A outer s H vs Q E hr h => ?_)
  · obtain ⟨a, v, rfl, _⟩ := h
    rfl
  · obtain ⟨a, v, rfl, ha, q⟩ := h
    exact ⟨_, pss_one (ps_fst (pv 0) (pv 1)), _, rfl, _, rfl, a, T.c_InvalidLimits, rfl, T.he_InvalidLimits.oex, T.he_InvalidLimits.no _ (by simp), ha, fun dx n ne => q dx n ne⟩
theorem hx_InvalidLooks (T : Txt K mg) : XfC K (MX.nm K (Str.ofString "InvalidLooks")) := by
  rw [T.he_InvalidLooks.nm]
  exact T.he_InvalidLooks.xf
theorem hn_InvalidLooks_index (T : Txt K mg) : PySem.W.findIn K (.ref (MX.nm K (Str.ofString "InvalidLooks"))) (Str.ofString "index") = some none := by
  rw [T.he_InvalidLooks.nm]
  exact T.he_InvalidLooks.no _ (by simp)
theorem oki_InvalidLooks (T : Txt K mg) : FnOk P w K mg base CX0 1 T.i_InvalidLooks T.fi_InvalidLooks ["self", "index"] (spXI T.c_InvalidLooks (Str.ofString "index")) := by
  refine T.Fi_InvalidLooks.ok sci_InvalidLooks (fun vs H Q E h => ?_) (fun cdv A outer s H vs Q E hr h => ?_)
  · obtain ⟨a, v, rfl, _⟩ := h
    rfl
  · obtain ⟨a, v, rfl, ha, q⟩ := h
    exact ⟨_, pss_one (ps_fst (pv 0) (pv 1)), _, rfl, _, rfl, a, T.c_InvalidLooks, rfl, T.he_InvalidLooks.oex, T.he_InvalidLooks.no _ (by simp), ha, fun dx n ne => q dx n ne⟩
theorem hx_InvalidMarks (T : Txt K mg) : XfC K (MX.nm K (Str.ofString "InvalidMarks")) := by
  rw [T.he_InvalidMarks.nm]
  exact T.he_InvalidMarks.xf
theorem hn_InvalidMarks_index (T : Txt K mg) : PySem.W.findIn K (.ref (MX.nm K (Str.ofString "InvalidMarks"))) (Str.ofString "index") = some none := by
  rw [T.he_InvalidMarks.nm]
  exact T.he_InvalidMarks.no _ (by simp)
theorem oki_InvalidMarks (T : Txt K mg) : FnOk P w K mg base CX0 1 T.i_InvalidMarks T.fi_InvalidMarks ["self", "index"] (spXI T.c_InvalidMarks (Str.ofString "index")) := by
  refine T.Fi_InvalidMarks.ok sci_InvalidMarks (fun vs H Q E h => ?_) (fun cdv A outer s H vs Q E hr h => ?_)
  · obtain ⟨a, v, rfl, _⟩ := h
    rfl
  · obtain ⟨a, v, rfl, ha, q⟩ := h
    exact ⟨_, pss_one (ps_fst (pv 0) (pv 1)), _, rfl, _, rfl, a, T.c_InvalidMarks, rfl, T.he_InvalidMarks.oex, T.he_InvalidMarks.no _ (by simp), ha, fun dx n ne => q dx n ne⟩
theorem hx_InvalidState (T : Txt K mg) : XfC K (MX.nm K (Str.ofString "InvalidState")) := by
  rw [T.he_InvalidState.nm]
  exact T.he_InvalidState.xf
theorem hn_InvalidState_state (T : Txt K mg) : PySem.W.findIn K (.ref (MX.nm K (Str.ofString "InvalidState"))) (Str.ofString "state") = some none := by
  rw [T.he_InvalidState.nm]
  exact T.he_InvalidState.no _ (by simp)
theorem oki_InvalidState (T : Txt K mg) : FnOk P w K mg base CX0 1 T.i_InvalidState T.fi_InvalidState ["self", "state"] (spXI T.c_InvalidState (Str.ofString "state")) := by
  refine T.Fi_InvalidState.ok sci_InvalidState (fun vs H Q E h => ?_) (fun cdv A outer s H vs Q E hr h => ?_)
  · obtain ⟨a, v, rfl, _⟩ := h
    rfl
  · obtain ⟨a, v, rfl, ha, q⟩ := h
    exact ⟨_, pss_one (ps_fst (pv 0) (pv 1)), _, rfl, _, rfl, a, T.c_InvalidState, rfl, T.he_InvalidState.oex, T.he_InvalidState.no _ (by simp), ha, fun dx n ne => q dx n ne⟩
theorem hx_InvalidLines (T : Txt K mg) : XfC K (MX.nm K (Str.ofString "InvalidLines")) := by
  rw [T.he_InvalidLines.nm]
  exact T.he_InvalidLines.xf
theorem hn_InvalidLines_index (T : Txt K mg) : PySem.W.findIn K (.ref (MX.nm K (Str.ofString "InvalidLines"))) (Str.ofString "index") = some none := by
  rw [T.he_InvalidLines.nm]
  exact T.he_InvalidLines.no _ (by simp)
theorem oki_InvalidLines (T : Txt K mg) : FnOk P w K mg base CX0 1 T.i_InvalidLines T.fi_InvalidLines ["self", "index"] (spXI T.c_InvalidLines (Str.ofString "index")) := by
  refine T.Fi_InvalidLines.ok sci_InvalidLines (fun vs H Q E h => ?_) (fun cdv A outer s H vs Q E hr h => ?_)
  · obtain ⟨a, v, rfl, _⟩ := h
    rfl
  · obtain ⟨a, v, rfl, ha, q⟩ := h
    exact ⟨_, pss_one (ps_fst (pv 0) (pv 1)), _, rfl, _, rfl, a, T.c_InvalidLines, rfl, T.he_InvalidLines.oex, T.he_InvalidLines.no _ (by simp), ha, fun dx n ne => q dx n ne⟩
theorem hx_InvalidSize (T : Txt K mg) : XfC K (MX.nm K (Str.ofString "InvalidSize")) := by
  rw [T.he_InvalidSize.nm]
  exact T.he_InvalidSize.xf
theorem hn_InvalidSize_value (T : Txt K mg) : PySem.W.findIn K (.ref (MX.nm K (Str.ofString "InvalidSize"))) (Str.ofString "value") = some none := by
  rw [T.he_InvalidSize.nm]
  exact T.he_InvalidSize.no _ (by simp)
theorem oki_InvalidSize (T : Txt K mg) : FnOk P w K mg base CX0 1 T.i_InvalidSize T.fi_InvalidSize ["self", "value"] (spXI T.c_InvalidSize (Str.ofString "value")) := by
  refine T.Fi_InvalidSize.ok sci_InvalidSize (fun vs H Q E h => ?_) (fun cdv A outer s H vs Q E hr h => ?_)
  · obtain ⟨a, v, rfl, _⟩ := h
    rfl
  · obtain ⟨a, v, rfl, ha, q⟩ := h
    exact ⟨_, pss_one (ps_fst (pv 0) (pv 1)), _, rfl, _, rfl, a, T.c_InvalidSize, rfl, T.he_InvalidSize.oex, T.he_InvalidSize.no _ (by simp), ha, fun dx n ne => q dx n ne⟩
theorem hx_InvalidMarked (T : Txt K mg) : XfC K (MX.nm K (Str.ofString "InvalidMarked")) := by
  rw [T.he_InvalidMarked.nm]
  exact T.he_InvalidMarked.xf
theorem hn_InvalidMarked_value (T : Txt K mg) : PySem.W.findIn K (.ref (MX.nm K (Str.ofString "InvalidMarked"))) (Str.ofString "value") = some none := by
  rw [T.he_InvalidMarked.nm]
  exact T.he_InvalidMarked.no _ (by simp)
theorem oki_InvalidMarked (T : Txt K mg) : FnOk P w K mg base CX0 1 T.i_InvalidMarked T.fi_InvalidMarked ["self", "value"] (spXI T.c_InvalidMarked (Str.ofString "value")) := by
  refine T.Fi_InvalidMarked.ok sci_InvalidMarked (fun vs H Q E h => ?_) (fun cdv A outer s H vs Q E hr h => ?_)
  · obtain ⟨a, v, rfl, _⟩ := h
    rfl
  · obtain ⟨a, v, rfl, ha, q⟩ := h
    exact ⟨_, pss_one (ps_fst (pv 0) (pv 1)), _, rfl, _, rfl, a, T.c_InvalidMarked, rfl, T.he_InvalidMarked.oex, T.he_InvalidMarked.no _ (by simp), ha, fun dx n ne => q dx n ne⟩
theorem hx_InvalidSeries (T : Txt K mg) : XfC K (MX.nm K (Str.ofString "InvalidSeries")) := by
  rw [T.he_InvalidSeries.nm]
  exact T.he_InvalidSeries.xf
theorem hn_InvalidSeries_index (T : Txt K mg) : PySem.W.findIn K (.ref (MX.nm K (Str.ofString "InvalidSeries"))) (Str.ofString "index") = some none := by
  rw [T.he_InvalidSeries.nm]
  exact T.he_InvalidSeries.no _ (by simp)
theorem oki_InvalidSeries (T : Txt K mg) : FnOk P w K mg base CX0 1 T.i_InvalidSeries T.fi_InvalidSeries ["self", "index"] (spXI T.c_InvalidSeries (Str.ofString "index")) := by
  refine T.Fi_InvalidSeries.ok sci_InvalidSeries (fun vs H Q E h => ?_) (fun cdv A outer s H vs Q E hr h => ?_)
  · obtain ⟨a, v, rfl, _⟩ := h
    rfl
  · obtain ⟨a, v, rfl, ha, q⟩ := h
    exact ⟨_, pss_one (ps_fst (pv 0) (pv 1)), _, rfl, _, rfl, a, T.c_InvalidSeries, rfl, T.he_InvalidSeries.oex, T.he_InvalidSeries.no _ (by simp), ha, fun dx n ne => q dx n ne⟩
theorem hx_InvalidModulus (T : Txt K mg) : XfC K (MX.nm K (Str.ofString "InvalidModulus")) := by
  rw [T.he_InvalidModulus.nm]
  exact T.he_InvalidModulus.xf
theorem hn_InvalidModulus_value (T : Txt K mg) : PySem.W.findIn K (.ref (MX.nm K (Str.ofString "InvalidModulus"))) (Str.ofString "value") = some none := by
  rw [T.he_InvalidModulus.nm]
  exact T.he_InvalidModulus.no _ (by simp)
theorem oki_InvalidModulus (T : Txt K mg) : FnOk P w K mg base CX0 1 T.i_InvalidModulus T.fi_InvalidModulus ["self", "value"] (spXI T.c_InvalidModulus (Str.ofString "value")) := by
  refine T.Fi_InvalidModulus.ok sci_InvalidModulus (fun vs H Q E h => ?_) (fun cdv A outer s H vs Q E hr h => ?_)
  · obtain ⟨a, v, rfl, _⟩ := h
    rfl
  · obtain ⟨a, v, rfl, ha, q⟩ := h
    exact ⟨_, pss_one (ps_fst (pv 0) (pv 1)), _, rfl, _, rfl, a, T.c_InvalidModulus, rfl, T.he_InvalidModulus.oex, T.he_InvalidModulus.no _ (by simp), ha, fun dx n ne => q dx n ne⟩
theorem hx_InvalidKeys (T : Txt K mg) : XfC K (MX.nm K (Str.ofString "InvalidKeys")) := by
  rw [T.he_InvalidKeys.nm]
  exact T.he_InvalidKeys.xf
theorem hn_InvalidKeys_index (T : Txt K mg) : PySem.W.findIn K (.ref (MX.nm K (Str.ofString "InvalidKeys"))) (Str.ofString "index") = some none := by
  rw [T.he_InvalidKeys.nm]
  exact T.he_InvalidKeys.no _ (by simp)
theorem oki_InvalidKeys (T : Txt K mg) : FnOk P w K mg base CX0 1 T.i_InvalidKeys T.fi_InvalidKeys ["self", "index"] (spXI T.c_InvalidKeys (Str.ofString "index")) := by
  refine T.Fi_InvalidKeys.ok sci_InvalidKeys (fun vs H Q E h => ?_) (fun cdv A outer s H vs Q E hr h => ?_)
  · obtain ⟨a, v, rfl, _⟩ := h
    rfl
  · obtain ⟨a, v, rfl, ha, q⟩ := h
    exact ⟨_, pss_one (ps_fst (pv 0) (pv 1)), _, rfl, _, rfl, a, T.c_InvalidKeys, rfl, T.he_InvalidKeys.oex, T.he_InvalidKeys.no _ (by simp), ha, fun dx n ne => q dx n ne⟩
theorem hx_InvalidLayers (T : Txt K mg) : XfC K (MX.nm K (Str.ofString "InvalidLayers")) := by
  rw [T.he_InvalidLayers.nm]
  exact T.he_InvalidLayers.xf
theorem hn_InvalidLayers_index (T : Txt K mg) : PySem.W.findIn K (.ref (MX.nm K (Str.ofString "InvalidLayers"))) (Str.ofString "index") = some none := by
  rw [T.he_InvalidLayers.nm]
  exact T.he_InvalidLayers.no _ (by simp)
theorem oki_InvalidLayers (T : Txt K mg) : FnOk P w K mg base CX0 1 T.i_InvalidLayers T.fi_InvalidLayers ["self", "index"] (spXI T.c_InvalidLayers (Str.ofString "index")) := by
  refine T.Fi_InvalidLayers.ok sci_InvalidLayers (fun vs H Q E h => ?_) (fun cdv A outer s H vs Q E hr h => ?_)
  · obtain ⟨a, v, rfl, _⟩ := h
    rfl
  · obtain ⟨a, v, rfl, ha, q⟩ := h
    exact ⟨_, pss_one (ps_fst (pv 0) (pv 1)), _, rfl, _, rfl, a, T.c_InvalidLayers, rfl, T.he_InvalidLayers.oex, T.he_InvalidLayers.no _ (by simp), ha, fun dx n ne => q dx n ne⟩
theorem hx_InvalidTables (T : Txt K mg) : XfC K (MX.nm K (Str.ofString "InvalidTables")) := by
  rw [T.he_InvalidTables.nm]
  exact T.he_InvalidTables.xf
theorem hn_InvalidTables_name (T : Txt K mg) : PySem.W.findIn K (.ref (MX.nm K (Str.ofString "InvalidTables"))) (Str.ofString "name") = some none := by
  rw [T.he_InvalidTables.nm]
  exact T.he_InvalidTables.no _ (by simp)
theorem oki_InvalidTables (T : Txt K mg) : FnOk P w K mg base CX0 1 T.i_InvalidTables T.fi_InvalidTables ["self", "name"] (spXI T.c_InvalidTables (Str.ofString "name")) := by
  refine T.Fi_InvalidTables.ok sci_InvalidTables (fun vs H Q E h => ?_) (fun cdv A outer s H vs Q E hr h => ?_)
  · obtain ⟨a, v, rfl, _⟩ := h
    rfl
  · obtain ⟨a, v, rfl, ha, q⟩ := h
    exact ⟨_, pss_one (ps_fst (pv 0) (pv 1)), _, rfl, _, rfl, a, T.c_InvalidTables, rfl, T.he_InvalidTables.oex, T.he_InvalidTables.no _ (by simp), ha, fun dx n ne => q dx n ne⟩
theorem hx_InvalidDeeds (T : Txt K mg) : XfC K (MX.nm K (Str.ofString "InvalidDeeds")) := by
  rw [T.he_InvalidDeeds.nm]
  exact T.he_InvalidDeeds.xf
theorem hn_InvalidDeeds_index (T : Txt K mg) : PySem.W.findIn K (.ref (MX.nm K (Str.ofString "InvalidDeeds"))) (Str.ofString "index") = some none := by
  rw [T.he_InvalidDeeds.nm]
  exact T.he_InvalidDeeds.no _ (by simp)
theorem oki_InvalidDeeds (T : Txt K mg) : FnOk P w K mg base CX0 1 T.i_InvalidDeeds T.fi_InvalidDeeds ["self", "index"] (spXI T.c_InvalidDeeds (Str.ofString "index")) := by
  refine T.Fi_InvalidDeeds.ok sci_InvalidDeeds (fun vs H Q E h => ?_) (fun cdv A outer s H vs Q E hr h => ?_)
  · obtain ⟨a, v, rfl, _⟩ := h
    rfl
  · obtain ⟨a, v, rfl, ha, q⟩ := h
    exact ⟨_, pss_one (ps_fst (pv 0) (pv 1)), _, rfl, _, rfl, a, T.c_InvalidDeeds, rfl, T.he_InvalidDeeds.oex, T.he_InvalidDeeds.no _ (by simp), ha, fun dx n ne => q dx n ne⟩
theorem hx_InvalidText (T : Txt K mg) : XfC K (MX.nm K (Str.ofString "InvalidText")) := by
  rw [T.he_InvalidText.nm]
  exact T.he_InvalidText.xf
theorem hn_InvalidText_text (T : Txt K mg) : PySem.W.findIn K (.ref (MX.nm K (Str.ofString "InvalidText"))) (Str.ofString "text") = some none := by
  rw [T.he_InvalidText.nm]
  exact T.he_InvalidText.no _ (by simp)
theorem oki_InvalidText (T : Txt K mg) : FnOk P w K mg base CX0 1 T.i_InvalidText T.fi_InvalidText ["self", "text"] (spXI T.c_InvalidText (Str.ofString "text")) := by
  refine T.Fi_InvalidText.ok sci_InvalidText (fun vs H Q E h => ?_) (fun cdv A outer s H vs Q E hr h => ?_)
  · obtain ⟨a, v, rfl, _⟩ := h
    rfl
  · obtain ⟨a, v, rfl, ha, q⟩ := h
    exact ⟨_, pss_one (ps_fst (pv 0) (pv 1)), _, rfl, _, rfl, a, T.c_InvalidText, rfl, T.he_InvalidText.oex, T.he_InvalidText.no _ (by simp), ha, fun dx n ne => q dx n ne⟩
theorem hx_InvalidCommand (T : Txt K mg) : XfC K (MX.nm K (Str.ofString "InvalidCommand")) := by
  rw [T.he_InvalidCommand.nm]
  exact T.he_InvalidCommand.xf
theorem hn_InvalidCommand_command (T : Txt K mg) : PySem.W.findIn K (.ref (MX.nm K (Str.ofString "InvalidCommand"))) (Str.ofString "command") = some none := by
  rw [T.he_InvalidCommand.nm]
  exact T.he_InvalidCommand.no _ (by simp)
theorem oki_InvalidCommand (T : Txt K mg) : FnOk P w K mg base CX0 1 T.i_InvalidCommand T.fi_InvalidCommand ["self", "command"] (spXI T.c_InvalidCommand (Str.ofString "command")) := by
  refine T.Fi_InvalidCommand.ok sci_InvalidCommand (fun vs H Q E h => ?_) (fun cdv A outer s H vs Q E hr h => ?_)
  · obtain ⟨a, v, rfl, _⟩ := h
    rfl
  · obtain ⟨a, v, rfl, ha, q⟩ := h
    exact ⟨_, pss_one (ps_fst (pv 0) (pv 1)), _, rfl, _, rfl, a, T.c_InvalidCommand, rfl, T.he_InvalidCommand.oex, T.he_InvalidCommand.no _ (by simp), ha, fun dx n ne => q dx n ne⟩
theorem hx_NotAPlan (T : Txt K mg) : XfC K (MX.nm K (Str.ofString "NotAPlan")) := by
  rw [T.he_NotAPlan.nm]
  exact T.he_NotAPlan.xf
theorem hn_NotAPlan_value (T : Txt K mg) : PySem.W.findIn K (.ref (MX.nm K (Str.ofString "NotAPlan"))) (Str.ofString "value") = some none := by
  rw [T.he_NotAPlan.nm]
  exact T.he_NotAPlan.no _ (by simp)
theorem oki_NotAPlan (T : Txt K mg) : FnOk P w K mg base CX0 1 T.i_NotAPlan T.fi_NotAPlan ["self", "value"] (spXI T.c_NotAPlan (Str.ofString "value")) := by
  refine T.Fi_NotAPlan.ok sci_NotAPlan (fun vs H Q E h => ?_) (fun cdv A outer s H vs Q E hr h => ?_)
  · obtain ⟨a, v, rfl, _⟩ := h
    rfl
  · obtain ⟨a, v, rfl, ha, q⟩ := h
    exact ⟨_, pss_one (ps_fst (pv 0) (pv 1)), _, rfl, _, rfl, a, T.c_NotAPlan, rfl, T.he_NotAPlan.oex, T.he_NotAPlan.no _ (by simp), ha, fun dx n ne => q dx n ne⟩
theorem hx_NotClaims (T : Txt K mg) : XfC K (MX.nm K (Str.ofString "NotClaims")) := by
  rw [T.he_NotClaims.nm]
  exact T.he_NotClaims.xf
theorem hn_NotClaims_value (T : Txt K mg) : PySem.W.findIn K (.ref (MX.nm K (Str.ofString "NotClaims"))) (Str.ofString "value") = some none := by
  rw [T.he_NotClaims.nm]
  exact T.he_NotClaims.no _ (by simp)
theorem oki_NotClaims (T : Txt K mg) : FnOk P w K mg base CX0 1 T.i_NotClaims T.fi_NotClaims ["self", "value"] (spXI T.c_NotClaims (Str.ofString "value")) := by
  refine T.Fi_NotClaims.ok sci_NotClaims (fun vs H Q E h => ?_) (fun cdv A outer s H vs Q E hr h => ?_)
  · obtain ⟨a, v, rfl, _⟩ := h
    rfl
  · obtain ⟨a, v, rfl, ha, q⟩ := h
    exact ⟨_, pss_one (ps_fst (pv 0) (pv 1)), _, rfl, _, rfl, a, T.c_NotClaims, rfl, T.he_NotClaims.oex, T.he_NotClaims.no _ (by simp), ha, fun dx n ne => q dx n ne⟩
theorem hx_NotFlipped (T : Txt K mg) : XfC K (MX.nm K (Str.ofString "NotFlipped")) := by
  rw [T.he_NotFlipped.nm]
  exact T.he_NotFlipped.xf
theorem hn_NotFlipped_found (T : Txt K mg) : PySem.W.findIn K (.ref (MX.nm K (Str.ofString "NotFlipped"))) (Str.ofString "found") = some none := by
  rw [T.he_NotFlipped.nm]
  exact T.he_NotFlipped.no _ (by simp)
theorem oki_NotFlipped (T : Txt K mg) : FnOk P w K mg base CX0 1 T.i_NotFlipped T.fi_NotFlipped ["self", "found"] (spXI T.c_NotFlipped (Str.ofString "found")) := by
  refine T.Fi_NotFlipped.ok sci_NotFlipped (fun vs H Q E h => ?_) (fun cdv A outer s H vs Q E hr h => ?_)
  · obtain ⟨a, v, rfl, _⟩ := h
    rfl
  · obtain ⟨a, v, rfl, ha, q⟩ := h
    exact ⟨_, pss_one (ps_fst (pv 0) (pv 1)), _, rfl, _, rfl, a, T.c_NotFlipped, rfl, T.he_NotFlipped.oex, T.he_NotFlipped.no _ (by simp), ha, fun dx n ne => q dx n ne⟩
theorem hx_NotATable (T : Txt K mg) : XfC K (MX.nm K (Str.ofString "NotATable")) := by
  rw [T.he_NotATable.nm]
  exact T.he_NotATable.xf
theorem hn_NotATable_value (T : Txt K mg) : PySem.W.findIn K (.ref (MX.nm K (Str.ofString "NotATable"))) (Str.ofString "value") = some none := by
  rw [T.he_NotATable.nm]
  exact T.he_NotATable.no _ (by simp)
theorem oki_NotATable (T : Txt K mg) : FnOk P w K mg base CX0 1 T.i_NotATable T.fi_NotATable ["self", "value"] (spXI T.c_NotATable (Str.ofString "value")) := by
  refine T.Fi_NotATable.ok sci_NotATable (fun vs H Q E h => ?_) (fun cdv A outer s H vs Q E hr h => ?_)
  · obtain ⟨a, v, rfl, _⟩ := h
    rfl
  · obtain ⟨a, v, rfl, ha, q⟩ := h
    exact ⟨_, pss_one (ps_fst (pv 0) (pv 1)), _, rfl, _, rfl, a, T.c_NotATable, rfl, T.he_NotATable.oex, T.he_NotATable.no _ (by simp), ha, fun dx n ne => q dx n ne⟩
theorem hx_NotASample (T : Txt K mg) : XfC K (MX.nm K (Str.ofString "NotASample")) := by
  rw [T.he_NotASample.nm]
  exact T.he_NotASample.xf
theorem hn_NotASample_value (T : Txt K mg) : PySem.W.findIn K (.ref (MX.nm K (Str.ofString "NotASample"))) (Str.ofString "value") = some none := by
  rw [T.he_NotASample.nm]
  exact T.he_NotASample.no _ (by simp)
theorem oki_NotASample (T : Txt K mg) : FnOk P w K mg base CX0 1 T.i_NotASample T.fi_NotASample ["self", "value"] (spXI T.c_NotASample (Str.ofString "value")) := by
  refine T.Fi_NotASample.ok sci_NotASample (fun vs H Q E h => ?_) (fun cdv A outer s H vs Q E hr h => ?_)
  · obtain ⟨a, v, rfl, _⟩ := h
    rfl
  · obtain ⟨a, v, rfl, ha, q⟩ := h
    exact ⟨_, pss_one (ps_fst (pv 0) (pv 1)), _, rfl, _, rfl, a, T.c_NotASample, rfl, T.he_NotASample.oex, T.he_NotASample.no _ (by simp), ha, fun dx n ne => q dx n ne⟩
theorem hx_UnknownName (T : Txt K mg) : XfC K (MX.nm K (Str.ofString "UnknownName")) := by
  rw [T.he_UnknownName.nm]
  exact T.he_UnknownName.xf
theorem hn_UnknownName_name (T : Txt K mg) : PySem.W.findIn K (.ref (MX.nm K (Str.ofString "UnknownName"))) (Str.ofString "name") = some none := by
  rw [T.he_UnknownName.nm]
  exact T.he_UnknownName.no _ (by simp)
theorem oki_UnknownName (T : Txt K mg) : FnOk P w K mg base CX0 1 T.i_UnknownName T.fi_UnknownName ["self", "name"] (spXI T.c_UnknownName (Str.ofString "name")) := by
  refine T.Fi_UnknownName.ok sci_UnknownName (fun vs H Q E h => ?_) (fun cdv A outer s H vs Q E hr h => ?_)
  · obtain ⟨a, v, rfl, _⟩ := h
    rfl
  · obtain ⟨a, v, rfl, ha, q⟩ := h
    exact ⟨_, pss_one (ps_fst (pv 0) (pv 1)), _, rfl, _, rfl, a, T.c_UnknownName, rfl, T.he_UnknownName.oex, T.he_UnknownName.no _ (by simp), ha, fun dx n ne => q dx n ne⟩
theorem hx_UnknownRow (T : Txt K mg) : XfC K (MX.nm K (Str.ofString "UnknownRow")) := by
  rw [T.he_UnknownRow.nm]
  exact T.he_UnknownRow.xf
theorem hn_UnknownRow_key (T : Txt K mg) : PySem.W.findIn K (.ref (MX.nm K (Str.ofString "UnknownRow"))) (Str.ofString "key") = some none := by
  rw [T.he_UnknownRow.nm]
  exact T.he_UnknownRow.no _ (by simp)
theorem oki_UnknownRow (T : Txt K mg) : FnOk P w K mg base CX0 1 T.i_UnknownRow T.fi_UnknownRow ["self", "key"] (spXI T.c_UnknownRow (Str.ofString "key")) := by
  refine T.Fi_UnknownRow.ok sci_UnknownRow (fun vs H Q E h => ?_) (fun cdv A outer s H vs Q E hr h => ?_)
  · obtain ⟨a, v, rfl, _⟩ := h
    rfl
  · obtain ⟨a, v, rfl, ha, q⟩ := h
    exact ⟨_, pss_one (ps_fst (pv 0) (pv 1)), _, rfl, _, rfl, a, T.c_UnknownRow, rfl, T.he_UnknownRow.oex, T.he_UnknownRow.no _ (by simp), ha, fun dx n ne => q dx n ne⟩
theorem hx_KnownRow (T : Txt K mg) : XfC K (MX.nm K (Str.ofString "KnownRow")) := by
  rw [T.he_KnownRow.nm]
  exact T.he_KnownRow.xf
theorem hn_KnownRow_key (T : Txt K mg) : PySem.W.findIn K (.ref (MX.nm K (Str.ofString "KnownRow"))) (Str.ofString "key") = some none := by
  rw [T.he_KnownRow.nm]
  exact T.he_KnownRow.no _ (by simp)
theorem oki_KnownRow (T : Txt K mg) : FnOk P w K mg base CX0 1 T.i_KnownRow T.fi_KnownRow ["self", "key"] (spXI T.c_KnownRow (Str.ofString "key")) := by
  refine T.Fi_KnownRow.ok sci_KnownRow (fun vs H Q E h => ?_) (fun cdv A outer s H vs Q E hr h => ?_)
  · obtain ⟨a, v, rfl, _⟩ := h
    rfl
  · obtain ⟨a, v, rfl, ha, q⟩ := h
    exact ⟨_, pss_one (ps_fst (pv 0) (pv 1)), _, rfl, _, rfl, a, T.c_KnownRow, rfl, T.he_KnownRow.oex, T.he_KnownRow.no _ (by simp), ha, fun dx n ne => q dx n ne⟩
theorem hx_SameRank (T : Txt K mg) : XfC K (MX.nm K (Str.ofString "SameRank")) := by
  rw [T.he_SameRank.nm]
  exact T.he_SameRank.xf
theorem hn_SameRank_rank (T : Txt K mg) : PySem.W.findIn K (.ref (MX.nm K (Str.ofString "SameRank"))) (Str.ofString "rank") = some none := by
  rw [T.he_SameRank.nm]
  exact T.he_SameRank.no _ (by simp)
theorem oki_SameRank (T : Txt K mg) : FnOk P w K mg base CX0 1 T.i_SameRank T.fi_SameRank ["self", "rank"] (spXI T.c_SameRank (Str.ofString "rank")) := by
  refine T.Fi_SameRank.ok sci_SameRank (fun vs H Q E h => ?_) (fun cdv A outer s H vs Q E hr h => ?_)
  · obtain ⟨a, v, rfl, _⟩ := h
    rfl
  · obtain ⟨a, v, rfl, ha, q⟩ := h
    exact ⟨_, pss_one (ps_fst (pv 0) (pv 1)), _, rfl, _, rfl, a, T.c_SameRank, rfl, T.he_SameRank.oex, T.he_SameRank.no _ (by simp), ha, fun dx n ne => q dx n ne⟩
theorem hx_Contradiction (T : Txt K mg) : XfC K (MX.nm K (Str.ofString "Contradiction")) := by
  rw [T.he_Contradiction.nm]
  exact T.he_Contradiction.xf
theorem hn_Contradiction_key (T : Txt K mg) : PySem.W.findIn K (.ref (MX.nm K (Str.ofString "Contradiction"))) (Str.ofString "key") = some none := by
  rw [T.he_Contradiction.nm]
  exact T.he_Contradiction.no _ (by simp)
theorem oki_Contradiction (T : Txt K mg) : FnOk P w K mg base CX0 1 T.i_Contradiction T.fi_Contradiction ["self", "key"] (spXI T.c_Contradiction (Str.ofString "key")) := by
  refine T.Fi_Contradiction.ok sci_Contradiction (fun vs H Q E h => ?_) (fun cdv A outer s H vs Q E hr h => ?_)
  · obtain ⟨a, v, rfl, _⟩ := h
    rfl
  · obtain ⟨a, v, rfl, ha, q⟩ := h
    exact ⟨_, pss_one (ps_fst (pv 0) (pv 1)), _, rfl, _, rfl, a, T.c_Contradiction, rfl, T.he_Contradiction.oex, T.he_Contradiction.no _ (by simp), ha, fun dx n ne => q dx n ne⟩
theorem hx_NotHeld (T : Txt K mg) : XfC K (MX.nm K (Str.ofString "NotHeld")) := by
  rw [T.he_NotHeld.nm]
  exact T.he_NotHeld.xf
theorem hn_NotHeld_found (T : Txt K mg) : PySem.W.findIn K (.ref (MX.nm K (Str.ofString "NotHeld"))) (Str.ofString "found") = some none := by
  rw [T.he_NotHeld.nm]
  exact T.he_NotHeld.no _ (by simp)
theorem oki_NotHeld (T : Txt K mg) : FnOk P w K mg base CX0 1 T.i_NotHeld T.fi_NotHeld ["self", "found"] (spXI T.c_NotHeld (Str.ofString "found")) := by
  refine T.Fi_NotHeld.ok sci_NotHeld (fun vs H Q E h => ?_) (fun cdv A outer s H vs Q E hr h => ?_)
  · obtain ⟨a, v, rfl, _⟩ := h
    rfl
  · obtain ⟨a, v, rfl, ha, q⟩ := h
    exact ⟨_, pss_one (ps_fst (pv 0) (pv 1)), _, rfl, _, rfl, a, T.c_NotHeld, rfl, T.he_NotHeld.oex, T.he_NotHeld.no _ (by simp), ha, fun dx n ne => q dx n ne⟩
theorem hx_TooFew (T : Txt K mg) : XfC K (MX.nm K (Str.ofString "TooFew")) := by
  rw [T.he_TooFew.nm]
  exact T.he_TooFew.xf
theorem hn_TooFew_looked (T : Txt K mg) : PySem.W.findIn K (.ref (MX.nm K (Str.ofString "TooFew"))) (Str.ofString "looked") = some none := by
  rw [T.he_TooFew.nm]
  exact T.he_TooFew.no _ (by simp)
theorem oki_TooFew (T : Txt K mg) : FnOk P w K mg base CX0 1 T.i_TooFew T.fi_TooFew ["self", "looked"] (spXI T.c_TooFew (Str.ofString "looked")) := by
  refine T.Fi_TooFew.ok sci_TooFew (fun vs H Q E h => ?_) (fun cdv A outer s H vs Q E hr h => ?_)
  · obtain ⟨a, v, rfl, _⟩ := h
    rfl
  · obtain ⟨a, v, rfl, ha, q⟩ := h
    exact ⟨_, pss_one (ps_fst (pv 0) (pv 1)), _, rfl, _, rfl, a, T.c_TooFew, rfl, T.he_TooFew.oex, T.he_TooFew.no _ (by simp), ha, fun dx n ne => q dx n ne⟩
theorem hx_TooFine (T : Txt K mg) : XfC K (MX.nm K (Str.ofString "TooFine")) := by
  rw [T.he_TooFine.nm]
  exact T.he_TooFine.xf
theorem hn_TooFine_found (T : Txt K mg) : PySem.W.findIn K (.ref (MX.nm K (Str.ofString "TooFine"))) (Str.ofString "found") = some none := by
  rw [T.he_TooFine.nm]
  exact T.he_TooFine.no _ (by simp)
theorem oki_TooFine (T : Txt K mg) : FnOk P w K mg base CX0 1 T.i_TooFine T.fi_TooFine ["self", "found"] (spXI T.c_TooFine (Str.ofString "found")) := by
  refine T.Fi_TooFine.ok sci_TooFine (fun vs H Q E h => ?_) (fun cdv A outer s H vs Q E hr h => ?_)
  · obtain ⟨a, v, rfl, _⟩ := h
    rfl
  · obtain ⟨a, v, rfl, ha, q⟩ := h
    exact ⟨_, pss_one (ps_fst (pv 0) (pv 1)), _, rfl, _, rfl, a, T.c_TooFine, rfl, T.he_TooFine.oex, T.he_TooFine.no _ (by simp), ha, fun dx n ne => q dx n ne⟩
theorem ke_Contradiction_key (T : Txt K mg) (s : Shared) (us ws : List Value) (_ : K.In s.heap) (l1 : us.length = 1) (l2 : ws.length = (["key"] : List Str).length) : BindsTo s T.fi_Contradiction ⟨us, (["key"] : List Str).zip ws⟩ ((["self", "key"] : List Str).zip (byK [0, 1] (us ++ ws))) := by
  obtain ⟨oc, od, kV, doc, pm, an, cdv, ct, osl, e, _, _⟩ := T.Fi_Contradiction.ex
  rw [e]
  match us, ws, l1, l2 with
  | [a0], [b0], _, _ => exact .of_eq rfl
theorem ke_InvalidCommand_command (T : Txt K mg) (s : Shared) (us ws : List Value) (_ : K.In s.heap) (l1 : us.length = 1) (l2 : ws.length = (["command"] : List Str).length) : BindsTo s T.fi_InvalidCommand ⟨us, (["command"] : List Str).zip ws⟩ ((["self", "command"] : List Str).zip (byK [0, 1] (us ++ ws))) := by
  obtain ⟨oc, od, kV, doc, pm, an, cdv, ct, osl, e, _, _⟩ := T.Fi_InvalidCommand.ex
  rw [e]
  match us, ws, l1, l2 with
  | [a0], [b0], _, _ => exact .of_eq rfl
theorem ke_InvalidDeeds_index (T : Txt K mg) (s : Shared) (us ws : List Value) (_ : K.In s.heap) (l1 : us.length = 1) (l2 : ws.length = (["index"] : List Str).length) : BindsTo s T.fi_InvalidDeeds ⟨us, (["index"] : List Str).zip ws⟩ ((["self", "index"] : List Str).zip (byK [0, 1] (us ++ ws))) := by
  obtain ⟨oc, od, kV, doc, pm, an, cdv, ct, osl, e, _, _⟩ := T.Fi_InvalidDeeds.ex
  rw [e]
  match us, ws, l1, l2 with
  | [a0], [b0], _, _ => exact .of_eq rfl
theorem ke_InvalidKeys_index (T : Txt K mg) (s : Shared) (us ws : List Value) (_ : K.In s.heap) (l1 : us.length = 1) (l2 : ws.length = (["index"] : List Str).length) : BindsTo s T.fi_InvalidKeys ⟨us, (["index"] : List Str).zip ws⟩ ((["self", "index"] : List Str).zip (byK [0, 1] (us ++ ws))) := by
  obtain ⟨oc, od, kV, doc, pm, an, cdv, ct, osl, e, _, _⟩ := T.Fi_InvalidKeys.ex
  rw [e]
  match us, ws, l1, l2 with
  | [a0], [b0], _, _ => exact .of_eq rfl
theorem ke_InvalidLayers_index (T : Txt K mg) (s : Shared) (us ws : List Value) (_ : K.In s.heap) (l1 : us.length = 1) (l2 : ws.length = (["index"] : List Str).length) : BindsTo s T.fi_InvalidLayers ⟨us, (["index"] : List Str).zip ws⟩ ((["self", "index"] : List Str).zip (byK [0, 1] (us ++ ws))) := by
  obtain ⟨oc, od, kV, doc, pm, an, cdv, ct, osl, e, _, _⟩ := T.Fi_InvalidLayers.ex
  rw [e]
  match us, ws, l1, l2 with
  | [a0], [b0], _, _ => exact .of_eq rfl
theorem ke_InvalidLimits_index (T : Txt K mg) (s : Shared) (us ws : List Value) (_ : K.In s.heap) (l1 : us.length = 1) (l2 : ws.length = (["index"] : List Str).length) : BindsTo s T.fi_InvalidLimits ⟨us, (["index"] : List Str).zip ws⟩ ((["self", "index"] : List Str).zip (byK [0, 1] (us ++ ws))) := by
  obtain ⟨oc, od, kV, doc, pm, an, cdv, ct, osl, e, _, _⟩ := T.Fi_InvalidLimits.ex
  rw [e]
  match us, ws, l1, l2 with
  | [a0], [b0], _, _ => exact .of_eq rfl
theorem ke_InvalidLines_index (T : Txt K mg) (s : Shared) (us ws : List Value) (_ : K.In s.heap) (l1 : us.length = 1) (l2 : ws.length = (["index"] : List Str).length) : BindsTo s T.fi_InvalidLines ⟨us, (["index"] : List Str).zip ws⟩ ((["self", "index"] : List Str).zip (byK [0, 1] (us ++ ws))) := by
  obtain ⟨oc, od, kV, doc, pm, an, cdv, ct, osl, e, _, _⟩ := T.Fi_InvalidLines.ex
  rw [e]
  match us, ws, l1, l2 with
  | [a0], [b0], _, _ => exact .of_eq rfl
theorem ke_InvalidLooks_index (T : Txt K mg) (s : Shared) (us ws : List Value) (_ : K.In s.heap) (l1 : us.length = 1) (l2 : ws.length = (["index"] : List Str).length) : BindsTo s T.fi_InvalidLooks ⟨us, (["index"] : List Str).zip ws⟩ ((["self", "index"] : List Str).zip (byK [0, 1] (us ++ ws))) := by
  obtain ⟨oc, od, kV, doc, pm, an, cdv, ct, osl, e, _, _⟩ := T.Fi_InvalidLooks.ex
  rw [e]
  match us, ws, l1, l2 with
  | [a0], [b0], _, _ => exact .of_eq rfl
theorem ke_InvalidMarked_value (T : Txt K mg) (s : Shared) (us ws : List Value) (_ : K.In s.heap) (l1 : us.length = 1) (l2 : ws.length = (["value"] : List Str).length) : BindsTo s T.fi_InvalidMarked ⟨us, (["value"] : List Str).zip ws⟩ ((["self", "value"] : List Str).zip (byK [0, 1] (us ++ ws))) := by
  obtain ⟨oc, od, kV, doc, pm, an, cdv, ct, osl, e, _, _⟩ := T.Fi_InvalidMarked.ex
  rw [e]
  match us, ws, l1, l2 with
  | [a0], [b0], _, _ => exact .of_eq rfl
theorem ke_InvalidMarks_index (T : Txt K mg) (s : Shared) (us ws : List Value) (_ : K.In s.heap) (l1 : us.length = 1) (l2 : ws.length = (["index"] : List Str).length) : BindsTo s T.fi_InvalidMarks ⟨us, (["index"] : List Str).zip ws⟩ ((["self", "index"] : List Str).zip (byK [0, 1] (us ++ ws))) := by
  obtain ⟨oc, od, kV, doc, pm, an, cdv, ct, osl, e, _, _⟩ := T.Fi_InvalidMarks.ex
  rw [e]
  match us, ws, l1, l2 with
  | [a0], [b0], _, _ => exact .of_eq rfl
theorem ke_InvalidModulus_value (T : Txt K mg) (s : Shared) (us ws : List Value) (_ : K.In s.heap) (l1 : us.length = 1) (l2 : ws.length = (["value"] : List Str).length) : BindsTo s T.fi_InvalidModulus ⟨us, (["value"] : List Str).zip ws⟩ ((["self", "value"] : List Str).zip (byK [0, 1] (us ++ ws))) := by
  obtain ⟨oc, od, kV, doc, pm, an, cdv, ct, osl, e, _, _⟩ := T.Fi_InvalidModulus.ex
  rw [e]
  match us, ws, l1, l2 with
  | [a0], [b0], _, _ => exact .of_eq rfl
theorem ke_InvalidName_name (T : Txt K mg) (s : Shared) (us ws : List Value) (_ : K.In s.heap) (l1 : us.length = 1) (l2 : ws.length = (["name"] : List Str).length) : BindsTo s T.fi_InvalidName ⟨us, (["name"] : List Str).zip ws⟩ ((["self", "name"] : List Str).zip (byK [0, 1] (us ++ ws))) := by
  obtain ⟨oc, od, kV, doc, pm, an, cdv, ct, osl, e, _, _⟩ := T.Fi_InvalidName.ex
  rw [e]
  match us, ws, l1, l2 with
  | [a0], [b0], _, _ => exact .of_eq rfl
theorem ke_InvalidNumber_number (T : Txt K mg) (s : Shared) (us ws : List Value) (_ : K.In s.heap) (l1 : us.length = 1) (l2 : ws.length = (["number"] : List Str).length) : BindsTo s T.fi_InvalidNumber ⟨us, (["number"] : List Str).zip ws⟩ ((["self", "number"] : List Str).zip (byK [0, 1] (us ++ ws))) := by
  obtain ⟨oc, od, kV, doc, pm, an, cdv, ct, osl, e, _, _⟩ := T.Fi_InvalidNumber.ex
  rw [e]
  match us, ws, l1, l2 with
  | [a0], [b0], _, _ => exact .of_eq rfl
theorem ke_InvalidRatio_value (T : Txt K mg) (s : Shared) (us ws : List Value) (_ : K.In s.heap) (l1 : us.length = 1) (l2 : ws.length = (["value"] : List Str).length) : BindsTo s T.fi_InvalidRatio ⟨us, (["value"] : List Str).zip ws⟩ ((["self", "value"] : List Str).zip (byK [0, 1] (us ++ ws))) := by
  obtain ⟨oc, od, kV, doc, pm, an, cdv, ct, osl, e, _, _⟩ := T.Fi_InvalidRatio.ex
  rw [e]
  match us, ws, l1, l2 with
  | [a0], [b0], _, _ => exact .of_eq rfl
theorem ke_InvalidRows_index (T : Txt K mg) (s : Shared) (us ws : List Value) (_ : K.In s.heap) (l1 : us.length = 1) (l2 : ws.length = (["index"] : List Str).length) : BindsTo s T.fi_InvalidRows ⟨us, (["index"] : List Str).zip ws⟩ ((["self", "index"] : List Str).zip (byK [0, 1] (us ++ ws))) := by
  obtain ⟨oc, od, kV, doc, pm, an, cdv, ct, osl, e, _, _⟩ := T.Fi_InvalidRows.ex
  rw [e]
  match us, ws, l1, l2 with
  | [a0], [b0], _, _ => exact .of_eq rfl
theorem ke_InvalidSeries_index (T : Txt K mg) (s : Shared) (us ws : List Value) (_ : K.In s.heap) (l1 : us.length = 1) (l2 : ws.length = (["index"] : List Str).length) : BindsTo s T.fi_InvalidSeries ⟨us, (["index"] : List Str).zip ws⟩ ((["self", "index"] : List Str).zip (byK [0, 1] (us ++ ws))) := by
  obtain ⟨oc, od, kV, doc, pm, an, cdv, ct, osl, e, _, _⟩ := T.Fi_InvalidSeries.ex
  rw [e]
  match us, ws, l1, l2 with
  | [a0], [b0], _, _ => exact .of_eq rfl
theorem ke_InvalidShare_value (T : Txt K mg) (s : Shared) (us ws : List Value) (_ : K.In s.heap) (l1 : us.length = 1) (l2 : ws.length = (["value"] : List Str).length) : BindsTo s T.fi_InvalidShare ⟨us, (["value"] : List Str).zip ws⟩ ((["self", "value"] : List Str).zip (byK [0, 1] (us ++ ws))) := by
  obtain ⟨oc, od, kV, doc, pm, an, cdv, ct, osl, e, _, _⟩ := T.Fi_InvalidShare.ex
  rw [e]
  match us, ws, l1, l2 with
  | [a0], [b0], _, _ => exact .of_eq rfl
theorem ke_InvalidSize_value (T : Txt K mg) (s : Shared) (us ws : List Value) (_ : K.In s.heap) (l1 : us.length = 1) (l2 : ws.length = (["value"] : List Str).length) : BindsTo s T.fi_InvalidSize ⟨us, (["value"] : List Str).zip ws⟩ ((["self", "value"] : List Str).zip (byK [0, 1] (us ++ ws))) := by
  obtain ⟨oc, od, kV, doc, pm, an, cdv, ct, osl, e, _, _⟩ := T.Fi_InvalidSize.ex
  rw [e]
  match us, ws, l1, l2 with
  | [a0], [b0], _, _ => exact .of_eq rfl
theorem ke_InvalidState_state (T : Txt K mg) (s : Shared) (us ws : List Value) (_ : K.In s.heap) (l1 : us.length = 1) (l2 : ws.length = (["state"] : List Str).length) : BindsTo s T.fi_InvalidState ⟨us, (["state"] : List Str).zip ws⟩ ((["self", "state"] : List Str).zip (byK [0, 1] (us ++ ws))) := by
  obtain ⟨oc, od, kV, doc, pm, an, cdv, ct, osl, e, _, _⟩ := T.Fi_InvalidState.ex
  rw [e]
  match us, ws, l1, l2 with
  | [a0], [b0], _, _ => exact .of_eq rfl
theorem ke_InvalidTables_name (T : Txt K mg) (s : Shared) (us ws : List Value) (_ : K.In s.heap) (l1 : us.length = 1) (l2 : ws.length = (["name"] : List Str).length) : BindsTo s T.fi_InvalidTables ⟨us, (["name"] : List Str).zip ws⟩ ((["self", "name"] : List Str).zip (byK [0, 1] (us ++ ws))) := by
  obtain ⟨oc, od, kV, doc, pm, an, cdv, ct, osl, e, _, _⟩ := T.Fi_InvalidTables.ex
  rw [e]
  match us, ws, l1, l2 with
  | [a0], [b0], _, _ => exact .of_eq rfl
theorem ke_InvalidText_text (T : Txt K mg) (s : Shared) (us ws : List Value) (_ : K.In s.heap) (l1 : us.length = 1) (l2 : ws.length = (["text"] : List Str).length) : BindsTo s T.fi_InvalidText ⟨us, (["text"] : List Str).zip ws⟩ ((["self", "text"] : List Str).zip (byK [0, 1] (us ++ ws))) := by
  obtain ⟨oc, od, kV, doc, pm, an, cdv, ct, osl, e, _, _⟩ := T.Fi_InvalidText.ex
  rw [e]
  match us, ws, l1, l2 with
  | [a0], [b0], _, _ => exact .of_eq rfl
theorem ke_KnownRow_key (T : Txt K mg) (s : Shared) (us ws : List Value) (_ : K.In s.heap) (l1 : us.length = 1) (l2 : ws.length = (["key"] : List Str).length) : BindsTo s T.fi_KnownRow ⟨us, (["key"] : List Str).zip ws⟩ ((["self", "key"] : List Str).zip (byK [0, 1] (us ++ ws))) := by
  obtain ⟨oc, od, kV, doc, pm, an, cdv, ct, osl, e, _, _⟩ := T.Fi_KnownRow.ex
  rw [e]
  match us, ws, l1, l2 with
  | [a0], [b0], _, _ => exact .of_eq rfl
theorem ke_NotAPlan_value (T : Txt K mg) (s : Shared) (us ws : List Value) (_ : K.In s.heap) (l1 : us.length = 1) (l2 : ws.length = (["value"] : List Str).length) : BindsTo s T.fi_NotAPlan ⟨us, (["value"] : List Str).zip ws⟩ ((["self", "value"] : List Str).zip (byK [0, 1] (us ++ ws))) := by
  obtain ⟨oc, od, kV, doc, pm, an, cdv, ct, osl, e, _, _⟩ := T.Fi_NotAPlan.ex
  rw [e]
  match us, ws, l1, l2 with
  | [a0], [b0], _, _ => exact .of_eq rfl
theorem ke_NotASample_value (T : Txt K mg) (s : Shared) (us ws : List Value) (_ : K.In s.heap) (l1 : us.length = 1) (l2 : ws.length = (["value"] : List Str).length) : BindsTo s T.fi_NotASample ⟨us, (["value"] : List Str).zip ws⟩ ((["self", "value"] : List Str).zip (byK [0, 1] (us ++ ws))) := by
  obtain ⟨oc, od, kV, doc, pm, an, cdv, ct, osl, e, _, _⟩ := T.Fi_NotASample.ex
  rw [e]
  match us, ws, l1, l2 with
  | [a0], [b0], _, _ => exact .of_eq rfl
theorem ke_NotATable_value (T : Txt K mg) (s : Shared) (us ws : List Value) (_ : K.In s.heap) (l1 : us.length = 1) (l2 : ws.length = (["value"] : List Str).length) : BindsTo s T.fi_NotATable ⟨us, (["value"] : List Str).zip ws⟩ ((["self", "value"] : List Str).zip (byK [0, 1] (us ++ ws))) := by
  obtain ⟨oc, od, kV, doc, pm, an, cdv, ct, osl, e, _, _⟩ := T.Fi_NotATable.ex
  rw [e]
  match us, ws, l1, l2 with
  | [a0], [b0], _, _ => exact .of_eq rfl
theorem ke_NotClaims_value (T : Txt K mg) (s : Shared) (us ws : List Value) (_ : K.In s.heap) (l1 : us.length = 1) (l2 : ws.length = (["value"] : List Str).length) : BindsTo s T.fi_NotClaims ⟨us, (["value"] : List Str).zip ws⟩ ((["self", "value"] : List Str).zip (byK [0, 1] (us ++ ws))) := by
  obtain ⟨oc, od, kV, doc, pm, an, cdv, ct, osl, e, _, _⟩ := T.Fi_NotClaims.ex
  rw [e]
  match us, ws, l1, l2 with
  | [a0], [b0], _, _ => exact .of_eq rfl
theorem ke_NotFlipped_found (T : Txt K mg) (s : Shared) (us ws : List Value) (_ : K.In s.heap) (l1 : us.length = 1) (l2 : ws.length = (["found"] : List Str).length) : BindsTo s T.fi_NotFlipped ⟨us, (["found"] : List Str).zip ws⟩ ((["self", "found"] : List Str).zip (byK [0, 1] (us ++ ws))) := by
  obtain ⟨oc, od, kV, doc, pm, an, cdv, ct, osl, e, _, _⟩ := T.Fi_NotFlipped.ex
  rw [e]
  match us, ws, l1, l2 with
  | [a0], [b0], _, _ => exact .of_eq rfl
theorem ke_NotHeld_found (T : Txt K mg) (s : Shared) (us ws : List Value) (_ : K.In s.heap) (l1 : us.length = 1) (l2 : ws.length = (["found"] : List Str).length) : BindsTo s T.fi_NotHeld ⟨us, (["found"] : List Str).zip ws⟩ ((["self", "found"] : List Str).zip (byK [0, 1] (us ++ ws))) := by
  obtain ⟨oc, od, kV, doc, pm, an, cdv, ct, osl, e, _, _⟩ := T.Fi_NotHeld.ex
  rw [e]
  match us, ws, l1, l2 with
  | [a0], [b0], _, _ => exact .of_eq rfl
theorem ke_NotRising_place_marks (T : Txt K mg) (s : Shared) (us ws : List Value) (_ : K.In s.heap) (l1 : us.length = 1) (l2 : ws.length = (["place", "marks"] : List Str).length) : BindsTo s T.fi_NotRising ⟨us, (["place", "marks"] : List Str).zip ws⟩ ((["self", "marks", "place"] : List Str).zip (byK [0, 2, 1] (us ++ ws))) := by
  obtain ⟨oc, od, kV, doc, pm, an, cdv, ct, osl, e, _, _⟩ := T.Fi_NotRising.ex
  rw [e]
  match us, ws, l1, l2 with
  | [a0], [b0, b1], _, _ => exact .of_eq rfl
theorem ke_SameRank_rank (T : Txt K mg) (s : Shared) (us ws : List Value) (_ : K.In s.heap) (l1 : us.length = 1) (l2 : ws.length = (["rank"] : List Str).length) : BindsTo s T.fi_SameRank ⟨us, (["rank"] : List Str).zip ws⟩ ((["self", "rank"] : List Str).zip (byK [0, 1] (us ++ ws))) := by
  obtain ⟨oc, od, kV, doc, pm, an, cdv, ct, osl, e, _, _⟩ := T.Fi_SameRank.ex
  rw [e]
  match us, ws, l1, l2 with
  | [a0], [b0], _, _ => exact .of_eq rfl
theorem ke_TooFew_looked (T : Txt K mg) (s : Shared) (us ws : List Value) (_ : K.In s.heap) (l1 : us.length = 1) (l2 : ws.length = (["looked"] : List Str).length) : BindsTo s T.fi_TooFew ⟨us, (["looked"] : List Str).zip ws⟩ ((["self", "looked"] : List Str).zip (byK [0, 1] (us ++ ws))) := by
  obtain ⟨oc, od, kV, doc, pm, an, cdv, ct, osl, e, _, _⟩ := T.Fi_TooFew.ex
  rw [e]
  match us, ws, l1, l2 with
  | [a0], [b0], _, _ => exact .of_eq rfl
theorem ke_TooFine_found (T : Txt K mg) (s : Shared) (us ws : List Value) (_ : K.In s.heap) (l1 : us.length = 1) (l2 : ws.length = (["found"] : List Str).length) : BindsTo s T.fi_TooFine ⟨us, (["found"] : List Str).zip ws⟩ ((["self", "found"] : List Str).zip (byK [0, 1] (us ++ ws))) := by
  obtain ⟨oc, od, kV, doc, pm, an, cdv, ct, osl, e, _, _⟩ := T.Fi_TooFine.ex
  rw [e]
  match us, ws, l1, l2 with
  | [a0], [b0], _, _ => exact .of_eq rfl
theorem ke_UnknownName_name (T : Txt K mg) (s : Shared) (us ws : List Value) (_ : K.In s.heap) (l1 : us.length = 1) (l2 : ws.length = (["name"] : List Str).length) : BindsTo s T.fi_UnknownName ⟨us, (["name"] : List Str).zip ws⟩ ((["self", "name"] : List Str).zip (byK [0, 1] (us ++ ws))) := by
  obtain ⟨oc, od, kV, doc, pm, an, cdv, ct, osl, e, _, _⟩ := T.Fi_UnknownName.ex
  rw [e]
  match us, ws, l1, l2 with
  | [a0], [b0], _, _ => exact .of_eq rfl
theorem ke_UnknownRow_key (T : Txt K mg) (s : Shared) (us ws : List Value) (_ : K.In s.heap) (l1 : us.length = 1) (l2 : ws.length = (["key"] : List Str).length) : BindsTo s T.fi_UnknownRow ⟨us, (["key"] : List Str).zip ws⟩ ((["self", "key"] : List Str).zip (byK [0, 1] (us ++ ws))) := by
  obtain ⟨oc, od, kV, doc, pm, an, cdv, ct, osl, e, _, _⟩ := T.Fi_UnknownRow.ex
  rw [e]
  match us, ws, l1, l2 with
  | [a0], [b0], _, _ => exact .of_eq rfl
theorem hf_Ratio_bottom (T : Txt K mg) : ∀ C ∈ [(Str.ofString "Ratio")], Cls K (MX.nm K C) ∧ NoAttr K (MX.nm K C) (Str.ofString "bottom") := all_cons ⟨by rw [T.k_Ratio.nm]; exact T.cl_Ratio, by rw [T.k_Ratio.nm]; exact T.na_Ratio_bottom⟩ all_nil
theorem hf_Ratio_floor (T : Txt K mg) : ∀ C ∈ [(Str.ofString "Ratio")], Cls K (MX.nm K C) ∧ NoAttr K (MX.nm K C) (Str.ofString "floor") := all_cons ⟨by rw [T.k_Ratio.nm]; exact T.cl_Ratio, by rw [T.k_Ratio.nm]; exact T.na_Ratio_floor⟩ all_nil
theorem hf_Ratio_top (T : Txt K mg) : ∀ C ∈ [(Str.ofString "Ratio")], Cls K (MX.nm K C) ∧ NoAttr K (MX.nm K C) (Str.ofString "top") := all_cons ⟨by rw [T.k_Ratio.nm]; exact T.cl_Ratio, by rw [T.k_Ratio.nm]; exact T.na_Ratio_top⟩ all_nil
theorem ok_is_integer (T : Txt K mg) : FnOk P w K mg base CX0 1 T.a_is_integer T.fd_is_integer ["value"] (spM K d_is_integer) :=
  okM (N := N_is_integer) (m := 1) (b := m_is_integer) T.F_is_integer sc_is_integer rfl (by decide) fun cdv A outer s H E hr => by
    exact ⟨_, (pss_one (ps_ret (pe_and (pe_callB call_isi (by rfl) T.z_isinstance bb_isi (pa_cons (pv 0) (pa_cons (pe_bltn (v := .ty "int") (by rfl) T.z_int (by decide +kernel) rfl) pa_nil))) (pe_one (pe_not (pe_callB call_isi (by rfl) T.z_isinstance bb_isi (pa_cons (pv 0) (pa_cons (pe_bltn (v := .ty "bool") (by rfl) T.z_bool (by decide +kernel) rfl) pa_nil)))))))), (ms_ret (me_and (me_cb cm_isi (ma_cons me_var (ma_cons (me_c fun _ _ => .ty _) ma_nil))) (me_not (me_cb cm_isi (ma_cons me_var (ma_cons (me_c fun _ _ => .ty _) ma_nil))))))⟩
theorem ok_Ratio___init__ (T : Txt K mg) : FnOk P w K mg base CX0 3 T.a_Ratio___init__ T.fd_Ratio___init__ ["self", "top", "bottom"] (spI K d_Ratio___init__) :=
  okMID (N := N_Ratio___init__) (m := 3) (b := m_Ratio___init__) T.F_Ratio___init__ sc_Ratio___init__ rfl (by decide) fun cdv A outer s H E hr => by
    exact ⟨_, (pss_cons (ps_if (pt_not (pt_truth (pe_call (ok_is_integer T) (hr.mono (by decide)) (by rfl) T.g_is_integer T.F_is_integer.kp (b_is_integer T) .nil pass0 (pa_cons (pv 1) pa_nil)) (by intro _; rfl))) (pss_one ps_never) pss_nil)
    (pss_cons (ps_if (PW.pt (pw_or (pt_not (pt_truth (pe_call (ok_is_integer T) (hr.mono (by decide)) (by rfl) T.g_is_integer T.F_is_integer.kp (b_is_integer T) .nil pass0 (pa_cons (pv 2) pa_nil)) (by intro _; rfl))) (pw_or1 (pt_cmpR op_lt (pv 2) pe_int (nomark _))))) (pss_one ps_never) pss_nil)
    (pss_cons (ps_set (i := 3) sc_Ratio___init__.nd rfl (Or.inl rfl) (pe_callBfun cr_gcd (by rfl) T.g_gcd (pa_cons (pv 1) (pa_cons (pv 2) pa_nil))))
    (pss_cons (ps_fld (pv 0) (pe_op op_fdivW (pv 1) (pv 3)) rfl)
    (pss_cons (ps_fld (pv 0) (pe_op op_fdivW (pv 2) (pv 3)) rfl)
    (pss_one (ps_fld (pv 0) (pe_op op_fdivW (pv 1) (pv 2)) rfl))))))), (ms_seq (ms_if (mt_not (mt_truth (me_call (fun _ _ _ _ z => z) (ma_cons me_var ma_nil)))) ms_never ms_nil)
    (ms_seq (ms_if (mt_or (mt_not (mt_truth (me_call (fun _ _ _ _ z => z) (ma_cons me_var ma_nil)))) (mt_test (me_op om_lt me_var (me_c fun _ _ => .int _)))) ms_never ms_nil)
    (ms_seq (ms_set (me_cb cm_gcd (ma_cons me_var (ma_cons me_var ma_nil))))
    (ms_seq (ms_fld (hf_Ratio_top T) (me_op om_div me_var me_var))
    (ms_seq (ms_fld (hf_Ratio_bottom T) (me_op om_div me_var me_var))
    (ms_fld (hf_Ratio_floor T) (me_op om_div me_var me_var)))))))⟩
theorem ok_Ratio___repr__ (T : Txt K mg) : FnOk P w K mg base CX0 1 T.a_Ratio___repr__ T.fd_Ratio___repr__ ["self"] (spM K d_Ratio___repr__) :=
  okM (N := N_Ratio___repr__) (m := 1) (b := m_Ratio___repr__) T.F_Ratio___repr__ sc_Ratio___repr__ rfl (by decide) fun cdv A outer s H E hr => by
    exact ⟨_, (pss_one (ps_ret (pe_joined (.cons pe_str (.cons (pe_fmt (pe_fld (pv 0) rfl)) (.cons pe_str (.cons (pe_fmt (pe_fld (pv 0) rfl)) (.cons pe_str .nil)))))))), (ms_ret (me_js (.cons (me_c fun _ _ => .str _) (.cons (me_fmt (me_fldU (hf_Ratio_top T) me_var)) (.cons (me_c fun _ _ => .str _) (.cons (me_fmt (me_fldU (hf_Ratio_bottom T) me_var)) (.cons (me_c fun _ _ => .str _) .nil)))))))⟩
theorem ok_q_purse (T : Txt K mg) : FnOk P w K mg base CX0 1 T.a_q_purse T.fd_q_purse ["_law_script", "_law_spot"] (spM K d_q_purse) :=
  okM (N := N_q_purse) (m := 2) (b := m_q_purse) T.F_q_purse sc_q_purse rfl (by decide) fun cdv A outer s H E hr => by
    exact ⟨_, (pss_cons (ps_set (i := 2) sc_q_purse.nd rfl (Or.inl rfl) (pe_op op_add (pe_op op_mul pe_int (pe_callB call_len (by rfl) T.z_len (by decide +kernel) (pa_cons (pv 0) pa_nil))) (pe_op op_mul pe_int (pv 1))))
    (pss_cons (ps_for PassesOwn.never rfl (pi_seq (pe_slice (sl_list.or sl_tupA) (pv 0) po_none (po_some pe_int))) (pg_name (i := 3) sc_q_purse.nd rfl (Or.inl rfl)) (pss_one (ps_set (i := 2) sc_q_purse.nd rfl (Or.inl rfl) (pe_op op_mod (pe_callTy call_int1 (by rfl) T.z_int (by decide +kernel) (pa_cons (pe_op op_add (pe_op op_mul (pv 2) pe_int) (pv 3)) pa_nil)) pe_int))))
    (pss_cons (ps_if (pt_cmpR op_lt (pv 1) (pe_callB call_len (by rfl) T.z_len (by decide +kernel) (pa_cons (pv 0) pa_nil)) (nomark _)) (pss_one (ps_set (i := 2) sc_q_purse.nd rfl (Or.inl rfl) (pe_ix ix_seq (pv 0) (pv 1) (fun _ _ => rfl)))) pss_nil)
    (pss_cons (ps_set (i := 4) sc_q_purse.nd rfl (Or.inl rfl) (pe_op op_pow (pe_callTy call_int1 (by rfl) T.z_int (by decide +kernel) (pa_cons (pe_op op_add (pe_op op_mod (pe_callTy call_int1 (by rfl) T.z_int (by decide +kernel) (pa_cons (pv 2) pa_nil)) pe_int) pe_int) pa_nil)) pe_int))
    (pss_one (ps_ret (pe_lst (pa_cons (pe_op op_mod (pe_callTy call_int1 (by rfl) T.z_int (by decide +kernel) (pa_cons (pv 4) pa_nil)) pe_int) (pa_cons (pe_ifExp (PW.pt (pw_or (pt_cmpR op_lt (pv 2) pe_int (nomark _)) (pw_or1 (pt_cmpR op_ge (pv 2) (pe_op op_pow pe_int pe_int) (nomark _))))) (pe_callB call_abs (by rfl) T.z_abs (by decide +kernel) (pa_cons (pv 2) pa_nil)) pe_int) (pa_cons pe_int pa_nil)))))))))), (ms_seq (ms_set (me_op om_add (me_op om_mulS (me_c fun _ _ => .int _) (me_cb cm_len (ma_cons me_var ma_nil))) (me_op om_mulS (me_c fun _ _ => .int _) me_var)))
    (ms_seq (ms_for (mi_seq (me_sl me_var mp_none (mp_some (me_c fun _ _ => .int _)))) mg_name (ms_set (me_op om_mod (me_cb cm_int (ma_cons (me_op om_add (me_op om_mulS me_var (me_c fun _ _ => .int _)) me_var) ma_nil)) (me_c fun _ _ => .int _))))
    (ms_seq (ms_if (mt_test (me_op om_lt me_var (me_cb cm_len (ma_cons me_var ma_nil)))) (ms_set (me_op om_ix me_var me_var)) ms_nil)
    (ms_seq (ms_set (me_op om_pow (me_cb cm_int (ma_cons (me_op om_add (me_op om_mod (me_cb cm_int (ma_cons me_var ma_nil)) (me_c fun _ _ => .int _)) (me_c fun _ _ => .int _)) ma_nil)) (me_c fun _ _ => .int _)))
    (ms_ret (me_lst (ma_cons (me_op om_mod (me_cb cm_int (ma_cons me_var ma_nil)) (me_c fun _ _ => .int _)) (ma_cons (me_if (mt_or (mt_test (me_op om_lt me_var (me_c fun _ _ => .int _))) (mt_test (me_op om_ge me_var (me_op om_pow (me_c fun _ _ => .int _) (me_c fun _ _ => .int _))))) (me_cb cm_abs (ma_cons me_var ma_nil)) (me_c fun _ _ => .int _)) (ma_cons (me_c fun _ _ => .int _) ma_nil)))))))))⟩
theorem ok_q_draw (T : Txt K mg) : FnOk P w K mg base CX0 1 T.a_q_draw T.fd_q_draw ["_law_purse_here", "_law_many"] (spI K d_q_draw) :=
  okMI (N := N_q_draw) (m := 2) (b := m_q_draw) T.F_q_draw sc_q_draw rfl (by decide) fun cdv A outer s H E hr => by
    exact ⟨_, (pss_cons (ps_asg (pe_op op_add (pe_ix ix_seq (pv 0) pe_int (fun _ _ => rfl)) pe_int) (pg_sub (pv 0) pe_int set_list))
    (pss_cons (ps_set (i := 2) sc_q_draw.nd rfl (Or.inl rfl) (pe_callTy call_int1 (by rfl) T.z_int (by decide +kernel) (pa_cons (pe_ix ix_seq (pv 0) pe_int (fun _ _ => rfl)) pa_nil)))
    (pss_cons (ps_set (i := 3) sc_q_draw.nd rfl (Or.inl rfl) (pe_op op_add (pe_op op_mod (pe_callTy call_int1 (by rfl) T.z_int (by decide +kernel) (pa_cons (pv 2) pa_nil)) pe_int) pe_int))
    (pss_cons (ps_asg (pe_op op_mod (pe_callTy call_int1 (by rfl) T.z_int (by decide +kernel) (pa_cons (pe_op op_add (pe_op op_add (pe_op op_mulW (pv 2) (pv 3)) (pe_op op_mul pe_int (pe_ix ix_seq (pv 0) pe_int (fun _ _ => rfl)))) pe_int) pa_nil)) pe_int) (pg_sub (pv 0) pe_int set_list))
    (pss_cons (ps_if (pt_cmpR op_gt (pe_ix ix_seq (pv 0) pe_int (fun _ _ => rfl)) pe_int (nomark _)) (pss_cons (ps_asg (pe_callB call_divmodW (by rfl) T.z_divmod (by decide +kernel) (pa_cons (pe_ix ix_seq (pv 0) pe_int (fun _ _ => rfl)) (pa_cons (pv 1) pa_nil))) (pg_tup (by rfl) (pgs_cons (pg_sub (pv 0) pe_int set_list) (pgs_cons (pg_name (i := 4) sc_q_draw.nd rfl (Or.inl rfl)) pgs_nil))))
        (pss_one (ps_ret (pv 4)))) pss_nil)
    (pss_one (ps_ret (pe_op op_mod (pe_callTy call_int1 (by rfl) T.z_int (by decide +kernel) (pa_cons (pe_op op_fdiv (pe_ix ix_seq (pv 0) pe_int (fun _ _ => rfl)) pe_int) pa_nil)) (pv 1))))))))), (ms_seq (ms_putIx (me_op om_add (me_op om_ix me_var (me_c fun _ _ => .int _)) (me_c fun _ _ => .int _)) (me_c fun _ _ => .int _))
    (ms_seq (ms_set (me_cb cm_int (ma_cons (me_op om_ix me_var (me_c fun _ _ => .int _)) ma_nil)))
    (ms_seq (ms_set (me_op om_add (me_op om_mod (me_cb cm_int (ma_cons me_var ma_nil)) (me_c fun _ _ => .int _)) (me_c fun _ _ => .int _)))
    (ms_seq (ms_putIx (me_op om_mod (me_cb cm_int (ma_cons (me_op om_add (me_op om_add (me_op om_mul me_var me_var) (me_op om_mulS (me_c fun _ _ => .int _) (me_op om_ix me_var (me_c fun _ _ => .int _)))) (me_c fun _ _ => .int _)) ma_nil)) (me_c fun _ _ => .int _)) (me_c fun _ _ => .int _))
    (ms_seq (ms_if (mt_test (me_op om_gt (me_op om_ix me_var (me_c fun _ _ => .int _)) (me_c fun _ _ => .int _))) (ms_seq (ms_putTup (me_cb cm_divm (ma_cons (me_op om_ix me_var (me_c fun _ _ => .int _)) (ma_cons me_var ma_nil))))
        (ms_ret me_var)) ms_nil)
    (ms_ret (me_op om_mod (me_cb cm_int (ma_cons (me_op om_divS (me_op om_ix me_var (me_c fun _ _ => .int _)) (me_c fun _ _ => .int _)) ma_nil)) me_var)))))))⟩
theorem ok_q_first_words (T : Txt K mg) : FnOk P w K mg base CX0 1 T.a_q_first_words T.fd_q_first_words ["_law_e"] (spM K d_q_first_words) :=
  okM (N := N_q_first_words) (m := 1) (b := m_q_first_words) T.F_q_first_words sc_q_first_words rfl (by decide) fun cdv A outer s H E hr => by
    exact ⟨_, (pss_cons (ps_set (i := 1) sc_q_first_words.nd rfl (Or.inl rfl) (pe_lst (pa_cons (pe_tup (pa_cons pe_str (pa_cons (pe_callB call_isH (by rfl) T.z_isinstance bb_isi (pa_cons (pv 0) (pa_cons (pe_glob (v := .ref T.c_InvalidNumber) rfl T.g_InvalidNumber rfl) pa_nil))) pa_nil))) (pa_cons (pe_tup (pa_cons pe_str (pa_cons (pe_callB call_isH (by rfl) T.z_isinstance bb_isi (pa_cons (pv 0) (pa_cons (pe_glob (v := .ref T.c_InvalidRatio) rfl T.g_InvalidRatio rfl) pa_nil))) pa_nil))) pa_nil))))
    (pss_cons (ps_set (i := 1) sc_q_first_words.nd rfl (Or.inl rfl) (pe_op op_cat (pv 1) (pe_lst (pa_cons (pe_tup (pa_cons pe_str (pa_cons (pe_callB call_isH (by rfl) T.z_isinstance bb_isi (pa_cons (pv 0) (pa_cons (pe_glob (v := .ref T.c_InvalidShare) rfl T.g_InvalidShare rfl) pa_nil))) pa_nil))) (pa_cons (pe_tup (pa_cons pe_str (pa_cons (pe_callB call_isH (by rfl) T.z_isinstance bb_isi (pa_cons (pv 0) (pa_cons (pe_glob (v := .ref T.c_InvalidName) rfl T.g_InvalidName rfl) pa_nil))) pa_nil))) pa_nil)))))
    (pss_cons (ps_set (i := 1) sc_q_first_words.nd rfl (Or.inl rfl) (pe_op op_cat (pv 1) (pe_lst (pa_cons (pe_tup (pa_cons pe_str (pa_cons (pe_callB call_isH (by rfl) T.z_isinstance bb_isi (pa_cons (pv 0) (pa_cons (pe_glob (v := .ref T.c_InvalidRows) rfl T.g_InvalidRows rfl) pa_nil))) pa_nil))) (pa_cons (pe_tup (pa_cons pe_str (pa_cons (pe_callB call_isH (by rfl) T.z_isinstance bb_isi (pa_cons (pv 0) (pa_cons (pe_glob (v := .ref T.c_NotRising) rfl T.g_NotRising rfl) pa_nil))) pa_nil))) pa_nil)))))
    (pss_cons (ps_set (i := 1) sc_q_first_words.nd rfl (Or.inl rfl) (pe_op op_cat (pv 1) (pe_lst (pa_cons (pe_tup (pa_cons pe_str (pa_cons (pe_callB call_isH (by rfl) T.z_isinstance bb_isi (pa_cons (pv 0) (pa_cons (pe_glob (v := .ref T.c_InvalidLimits) rfl T.g_InvalidLimits rfl) pa_nil))) pa_nil))) (pa_cons (pe_tup (pa_cons pe_str (pa_cons (pe_callB call_isH (by rfl) T.z_isinstance bb_isi (pa_cons (pv 0) (pa_cons (pe_glob (v := .ref T.c_InvalidLooks) rfl T.g_InvalidLooks rfl) pa_nil))) pa_nil))) pa_nil)))))
    (pss_cons (ps_set (i := 1) sc_q_first_words.nd rfl (Or.inl rfl) (pe_op op_cat (pv 1) (pe_lst (pa_cons (pe_tup (pa_cons pe_str (pa_cons (pe_callB call_isH (by rfl) T.z_isinstance bb_isi (pa_cons (pv 0) (pa_cons (pe_glob (v := .ref T.c_InvalidMarks) rfl T.g_InvalidMarks rfl) pa_nil))) pa_nil))) (pa_cons (pe_tup (pa_cons pe_str (pa_cons (pe_callB call_isH (by rfl) T.z_isinstance bb_isi (pa_cons (pv 0) (pa_cons (pe_glob (v := .ref T.c_InvalidState) rfl T.g_InvalidState rfl) pa_nil))) pa_nil))) pa_nil)))))
    (pss_cons (ps_set (i := 1) sc_q_first_words.nd rfl (Or.inl rfl) (pe_op op_cat (pv 1) (pe_lst (pa_cons (pe_tup (pa_cons pe_str (pa_cons (pe_callB call_isH (by rfl) T.z_isinstance bb_isi (pa_cons (pv 0) (pa_cons (pe_glob (v := .ref T.c_InvalidLines) rfl T.g_InvalidLines rfl) pa_nil))) pa_nil))) (pa_cons (pe_tup (pa_cons pe_str (pa_cons (pe_callB call_isH (by rfl) T.z_isinstance bb_isi (pa_cons (pv 0) (pa_cons (pe_glob (v := .ref T.c_InvalidSize) rfl T.g_InvalidSize rfl) pa_nil))) pa_nil))) pa_nil)))))
    (pss_cons (ps_set (i := 1) sc_q_first_words.nd rfl (Or.inl rfl) (pe_op op_cat (pv 1) (pe_lst (pa_cons (pe_tup (pa_cons pe_str (pa_cons (pe_callB call_isH (by rfl) T.z_isinstance bb_isi (pa_cons (pv 0) (pa_cons (pe_glob (v := .ref T.c_InvalidMarked) rfl T.g_InvalidMarked rfl) pa_nil))) pa_nil))) (pa_cons (pe_tup (pa_cons pe_str (pa_cons (pe_callB call_isH (by rfl) T.z_isinstance bb_isi (pa_cons (pv 0) (pa_cons (pe_glob (v := .ref T.c_InvalidSeries) rfl T.g_InvalidSeries rfl) pa_nil))) pa_nil))) pa_nil)))))
    (pss_cons (ps_set (i := 1) sc_q_first_words.nd rfl (Or.inl rfl) (pe_op op_cat (pv 1) (pe_lst (pa_cons (pe_tup (pa_cons pe_str (pa_cons (pe_callB call_isH (by rfl) T.z_isinstance bb_isi (pa_cons (pv 0) (pa_cons (pe_glob (v := .ref T.c_InvalidModulus) rfl T.g_InvalidModulus rfl) pa_nil))) pa_nil))) (pa_cons (pe_tup (pa_cons pe_str (pa_cons (pe_callB call_isH (by rfl) T.z_isinstance bb_isi (pa_cons (pv 0) (pa_cons (pe_glob (v := .ref T.c_InvalidKeys) rfl T.g_InvalidKeys rfl) pa_nil))) pa_nil))) pa_nil)))))
    (pss_cons (ps_set (i := 1) sc_q_first_words.nd rfl (Or.inl rfl) (pe_op op_cat (pv 1) (pe_lst (pa_cons (pe_tup (pa_cons pe_str (pa_cons (pe_callB call_isH (by rfl) T.z_isinstance bb_isi (pa_cons (pv 0) (pa_cons (pe_glob (v := .ref T.c_InvalidLayers) rfl T.g_InvalidLayers rfl) pa_nil))) pa_nil))) (pa_cons (pe_tup (pa_cons pe_str (pa_cons (pe_callB call_isH (by rfl) T.z_isinstance bb_isi (pa_cons (pv 0) (pa_cons (pe_glob (v := .ref T.c_InvalidTables) rfl T.g_InvalidTables rfl) pa_nil))) pa_nil))) pa_nil)))))
    (pss_one (ps_ret (pe_lc (own := [("_law_word", 2), ("_law_told", 3)]) (g := (gTup K 2 (gCons (gName 2) (gCons (gName 3) gNil)))) (by rfl) sc_q_first_words.nd (pi_seq (pv 1)) (blkOk_by (own := [("_law_word", 2), ("_law_told", 3)]) (N := N_q_first_words) (sc := defScope s_q_first_words) (by decide +kernel)) (fun _ _ _ _ _ => (pg_tup (by rfl) (pgs_cons (pg_name (i := 2) sc_q_first_words.nd rfl ((by first | exact Or.inl rfl | exact Or.inr rfl))) (pgs_cons (pg_name (i := 3) sc_q_first_words.nd rfl ((by first | exact Or.inl rfl | exact Or.inr rfl))) pgs_nil)))) (fun _ _ _ _ _ => (pts_one (pt_truth (pv 3) (by intro _; rfl)))) (fun _ _ _ _ _ => (pv 2)))))))))))))), (ms_seq (ms_set (me_lst (ma_cons (me_tup (ma_cons (me_c fun _ _ => .str _) (ma_cons (me_cb (cm_isH T.hIs) (ma_cons me_var (ma_cons (me_cls T.n_InvalidNumber) ma_nil))) ma_nil))) (ma_cons (me_tup (ma_cons (me_c fun _ _ => .str _) (ma_cons (me_cb (cm_isH T.hIs) (ma_cons me_var (ma_cons (me_cls T.n_InvalidRatio) ma_nil))) ma_nil))) ma_nil))))
    (ms_seq (ms_set (me_op om_cat me_var (me_lst (ma_cons (me_tup (ma_cons (me_c fun _ _ => .str _) (ma_cons (me_cb (cm_isH T.hIs) (ma_cons me_var (ma_cons (me_cls T.n_InvalidShare) ma_nil))) ma_nil))) (ma_cons (me_tup (ma_cons (me_c fun _ _ => .str _) (ma_cons (me_cb (cm_isH T.hIs) (ma_cons me_var (ma_cons (me_cls T.n_InvalidName) ma_nil))) ma_nil))) ma_nil)))))
    (ms_seq (ms_set (me_op om_cat me_var (me_lst (ma_cons (me_tup (ma_cons (me_c fun _ _ => .str _) (ma_cons (me_cb (cm_isH T.hIs) (ma_cons me_var (ma_cons (me_cls T.n_InvalidRows) ma_nil))) ma_nil))) (ma_cons (me_tup (ma_cons (me_c fun _ _ => .str _) (ma_cons (me_cb (cm_isH T.hIs) (ma_cons me_var (ma_cons (me_cls T.n_NotRising) ma_nil))) ma_nil))) ma_nil)))))
    (ms_seq (ms_set (me_op om_cat me_var (me_lst (ma_cons (me_tup (ma_cons (me_c fun _ _ => .str _) (ma_cons (me_cb (cm_isH T.hIs) (ma_cons me_var (ma_cons (me_cls T.n_InvalidLimits) ma_nil))) ma_nil))) (ma_cons (me_tup (ma_cons (me_c fun _ _ => .str _) (ma_cons (me_cb (cm_isH T.hIs) (ma_cons me_var (ma_cons (me_cls T.n_InvalidLooks) ma_nil))) ma_nil))) ma_nil)))))
    (ms_seq (ms_set (me_op om_cat me_var (me_lst (ma_cons (me_tup (ma_cons (me_c fun _ _ => .str _) (ma_cons (me_cb (cm_isH T.hIs) (ma_cons me_var (ma_cons (me_cls T.n_InvalidMarks) ma_nil))) ma_nil))) (ma_cons (me_tup (ma_cons (me_c fun _ _ => .str _) (ma_cons (me_cb (cm_isH T.hIs) (ma_cons me_var (ma_cons (me_cls T.n_InvalidState) ma_nil))) ma_nil))) ma_nil)))))
    (ms_seq (ms_set (me_op om_cat me_var (me_lst (ma_cons (me_tup (ma_cons (me_c fun _ _ => .str _) (ma_cons (me_cb (cm_isH T.hIs) (ma_cons me_var (ma_cons (me_cls T.n_InvalidLines) ma_nil))) ma_nil))) (ma_cons (me_tup (ma_cons (me_c fun _ _ => .str _) (ma_cons (me_cb (cm_isH T.hIs) (ma_cons me_var (ma_cons (me_cls T.n_InvalidSize) ma_nil))) ma_nil))) ma_nil)))))
    (ms_seq (ms_set (me_op om_cat me_var (me_lst (ma_cons (me_tup (ma_cons (me_c fun _ _ => .str _) (ma_cons (me_cb (cm_isH T.hIs) (ma_cons me_var (ma_cons (me_cls T.n_InvalidMarked) ma_nil))) ma_nil))) (ma_cons (me_tup (ma_cons (me_c fun _ _ => .str _) (ma_cons (me_cb (cm_isH T.hIs) (ma_cons me_var (ma_cons (me_cls T.n_InvalidSeries) ma_nil))) ma_nil))) ma_nil)))))
    (ms_seq (ms_set (me_op om_cat me_var (me_lst (ma_cons (me_tup (ma_cons (me_c fun _ _ => .str _) (ma_cons (me_cb (cm_isH T.hIs) (ma_cons me_var (ma_cons (me_cls T.n_InvalidModulus) ma_nil))) ma_nil))) (ma_cons (me_tup (ma_cons (me_c fun _ _ => .str _) (ma_cons (me_cb (cm_isH T.hIs) (ma_cons me_var (ma_cons (me_cls T.n_InvalidKeys) ma_nil))) ma_nil))) ma_nil)))))
    (ms_seq (ms_set (me_op om_cat me_var (me_lst (ma_cons (me_tup (ma_cons (me_c fun _ _ => .str _) (ma_cons (me_cb (cm_isH T.hIs) (ma_cons me_var (ma_cons (me_cls T.n_InvalidLayers) ma_nil))) ma_nil))) (ma_cons (me_tup (ma_cons (me_c fun _ _ => .str _) (ma_cons (me_cb (cm_isH T.hIs) (ma_cons me_var (ma_cons (me_cls T.n_InvalidTables) ma_nil))) ma_nil))) ma_nil)))))
    (ms_ret (me_lc (mi_seq me_var) (mg_tup (mgs_cons mg_name (mgs_cons mg_name mgs_nil))) (mt_truth me_var) me_var)))))))))))⟩
theorem ok_q_words (T : Txt K mg) : FnOk P w K mg base CX0 2 T.a_q_words T.fd_q_words ["_law_e"] (spM K d_q_words) :=
  okM (N := N_q_words) (m := 1) (b := m_q_words) T.F_q_words sc_q_words rfl (by decide) fun cdv A outer s H E hr => by
    exact ⟨_, (pss_cons (ps_set (i := 1) sc_q_words.nd rfl (Or.inl rfl) (pe_lst (pa_cons (pe_tup (pa_cons pe_str (pa_cons (pe_callB call_isH (by rfl) T.z_isinstance bb_isi (pa_cons (pv 0) (pa_cons (pe_glob (v := .ref T.c_InvalidDeeds) rfl T.g_InvalidDeeds rfl) pa_nil))) pa_nil))) (pa_cons (pe_tup (pa_cons pe_str (pa_cons (pe_callB call_isH (by rfl) T.z_isinstance bb_isi (pa_cons (pv 0) (pa_cons (pe_glob (v := .ref T.c_InvalidText) rfl T.g_InvalidText rfl) pa_nil))) pa_nil))) pa_nil))))
    (pss_cons (ps_set (i := 1) sc_q_words.nd rfl (Or.inl rfl) (pe_op op_cat (pv 1) (pe_lst (pa_cons (pe_tup (pa_cons pe_str (pa_cons (pe_callB call_isH (by rfl) T.z_isinstance bb_isi (pa_cons (pv 0) (pa_cons (pe_glob (v := .ref T.c_InvalidCommand) rfl T.g_InvalidCommand rfl) pa_nil))) pa_nil))) (pa_cons (pe_tup (pa_cons pe_str (pa_cons (pe_callB call_isH (by rfl) T.z_isinstance bb_isi (pa_cons (pv 0) (pa_cons (pe_glob (v := .ref T.c_NotAPlan) rfl T.g_NotAPlan rfl) pa_nil))) pa_nil))) pa_nil)))))
    (pss_cons (ps_set (i := 1) sc_q_words.nd rfl (Or.inl rfl) (pe_op op_cat (pv 1) (pe_lst (pa_cons (pe_tup (pa_cons pe_str (pa_cons (pe_callB call_isH (by rfl) T.z_isinstance bb_isi (pa_cons (pv 0) (pa_cons (pe_glob (v := .ref T.c_NotClaims) rfl T.g_NotClaims rfl) pa_nil))) pa_nil))) (pa_cons (pe_tup (pa_cons pe_str (pa_cons (pe_callB call_isH (by rfl) T.z_isinstance bb_isi (pa_cons (pv 0) (pa_cons (pe_glob (v := .ref T.c_NotFlipped) rfl T.g_NotFlipped rfl) pa_nil))) pa_nil))) pa_nil)))))
    (pss_cons (ps_set (i := 1) sc_q_words.nd rfl (Or.inl rfl) (pe_op op_cat (pv 1) (pe_lst (pa_cons (pe_tup (pa_cons pe_str (pa_cons (pe_callB call_isH (by rfl) T.z_isinstance bb_isi (pa_cons (pv 0) (pa_cons (pe_glob (v := .ref T.c_NotATable) rfl T.g_NotATable rfl) pa_nil))) pa_nil))) (pa_cons (pe_tup (pa_cons pe_str (pa_cons (pe_callB call_isH (by rfl) T.z_isinstance bb_isi (pa_cons (pv 0) (pa_cons (pe_glob (v := .ref T.c_NotASample) rfl T.g_NotASample rfl) pa_nil))) pa_nil))) pa_nil)))))
    (pss_cons (ps_set (i := 1) sc_q_words.nd rfl (Or.inl rfl) (pe_op op_cat (pv 1) (pe_lst (pa_cons (pe_tup (pa_cons pe_str (pa_cons (pe_callB call_isH (by rfl) T.z_isinstance bb_isi (pa_cons (pv 0) (pa_cons (pe_glob (v := .ref T.c_UnknownName) rfl T.g_UnknownName rfl) pa_nil))) pa_nil))) (pa_cons (pe_tup (pa_cons pe_str (pa_cons (pe_callB call_isH (by rfl) T.z_isinstance bb_isi (pa_cons (pv 0) (pa_cons (pe_glob (v := .ref T.c_UnknownRow) rfl T.g_UnknownRow rfl) pa_nil))) pa_nil))) pa_nil)))))
    (pss_cons (ps_set (i := 1) sc_q_words.nd rfl (Or.inl rfl) (pe_op op_cat (pv 1) (pe_lst (pa_cons (pe_tup (pa_cons pe_str (pa_cons (pe_callB call_isH (by rfl) T.z_isinstance bb_isi (pa_cons (pv 0) (pa_cons (pe_glob (v := .ref T.c_KnownRow) rfl T.g_KnownRow rfl) pa_nil))) pa_nil))) (pa_cons (pe_tup (pa_cons pe_str (pa_cons (pe_callB call_isH (by rfl) T.z_isinstance bb_isi (pa_cons (pv 0) (pa_cons (pe_glob (v := .ref T.c_SameRank) rfl T.g_SameRank rfl) pa_nil))) pa_nil))) pa_nil)))))
    (pss_cons (ps_set (i := 1) sc_q_words.nd rfl (Or.inl rfl) (pe_op op_cat (pv 1) (pe_lst (pa_cons (pe_tup (pa_cons pe_str (pa_cons (pe_callB call_isH (by rfl) T.z_isinstance bb_isi (pa_cons (pv 0) (pa_cons (pe_glob (v := .ref T.c_Contradiction) rfl T.g_Contradiction rfl) pa_nil))) pa_nil))) (pa_cons (pe_tup (pa_cons pe_str (pa_cons (pe_callB call_isH (by rfl) T.z_isinstance bb_isi (pa_cons (pv 0) (pa_cons (pe_glob (v := .ref T.c_NotHeld) rfl T.g_NotHeld rfl) pa_nil))) pa_nil))) pa_nil)))))
    (pss_cons (ps_set (i := 1) sc_q_words.nd rfl (Or.inl rfl) (pe_op op_cat (pv 1) (pe_lst (pa_cons (pe_tup (pa_cons pe_str (pa_cons (pe_callB call_isH (by rfl) T.z_isinstance bb_isi (pa_cons (pv 0) (pa_cons (pe_glob (v := .ref T.c_Busy) rfl T.g_Busy rfl) pa_nil))) pa_nil))) (pa_cons (pe_tup (pa_cons pe_str (pa_cons (pe_callB call_isH (by rfl) T.z_isinstance bb_isi (pa_cons (pv 0) (pa_cons (pe_glob (v := .ref T.c_NothingToUndo) rfl T.g_NothingToUndo rfl) pa_nil))) pa_nil))) pa_nil)))))
    (pss_cons (ps_set (i := 1) sc_q_words.nd rfl (Or.inl rfl) (pe_op op_cat (pv 1) (pe_lst (pa_cons (pe_tup (pa_cons pe_str (pa_cons (pe_callB call_isH (by rfl) T.z_isinstance bb_isi (pa_cons (pv 0) (pa_cons (pe_glob (v := .ref T.c_TooFew) rfl T.g_TooFew rfl) pa_nil))) pa_nil))) (pa_cons (pe_tup (pa_cons pe_str (pa_cons (pe_callB call_isH (by rfl) T.z_isinstance bb_isi (pa_cons (pv 0) (pa_cons (pe_glob (v := .ref T.c_TooFine) rfl T.g_TooFine rfl) pa_nil))) pa_nil))) pa_nil)))))
    (pss_cons (ps_set (i := 1) sc_q_words.nd rfl (Or.inl rfl) (pe_op op_cat (pv 1) (pe_lst (pa_cons (pe_tup (pa_cons pe_str (pa_cons (pe_callB call_isH (by rfl) T.z_isinstance bb_isi (pa_cons (pv 0) (pa_cons (pe_glob (v := .ref T.c_InputError) rfl T.g_InputError rfl) pa_nil))) pa_nil))) (pa_cons (pe_tup (pa_cons pe_str (pa_cons (pe_callB call_isH (by rfl) T.z_isinstance bb_isi (pa_cons (pv 0) (pa_cons (pe_glob (v := .ref T.c_StateError) rfl T.g_StateError rfl) pa_nil))) pa_nil))) pa_nil)))))
    (pss_cons (ps_set (i := 1) sc_q_words.nd rfl (Or.inl rfl) (pe_op op_cat (pv 1) (pe_lst (pa_cons (pe_tup (pa_cons pe_str (pa_cons (pe_callB call_isH (by rfl) T.z_isinstance bb_isi (pa_cons (pv 0) (pa_cons (pe_glob (v := .ref T.c_LimitError) rfl T.g_LimitError rfl) pa_nil))) pa_nil))) (pa_cons (pe_tup (pa_cons pe_str (pa_cons (pe_callB call_isH (by rfl) T.z_isinstance bb_isi (pa_cons (pv 0) (pa_cons (pe_bltn (v := .ty "ValueError") (by rfl) T.z_ValueError (by decide +kernel) rfl) pa_nil))) pa_nil))) pa_nil)))))
    (pss_cons (ps_set (i := 1) sc_q_words.nd rfl (Or.inl rfl) (pe_op op_cat (pv 1) (pe_lst (pa_cons (pe_tup (pa_cons pe_str (pa_cons (pe_callB call_isH (by rfl) T.z_isinstance bb_isi (pa_cons (pv 0) (pa_cons (pe_bltn (v := .ty "LookupError") (by rfl) T.z_LookupError (by decide +kernel) rfl) pa_nil))) pa_nil))) (pa_cons (pe_tup (pa_cons pe_str (pa_cons (pe_callB call_isH (by rfl) T.z_isinstance bb_isi (pa_cons (pv 0) (pa_cons (pe_bltn (v := .ty "ArithmeticError") (by rfl) T.z_ArithmeticError (by decide +kernel) rfl) pa_nil))) pa_nil))) pa_nil)))))
    (pss_one (ps_ret (pe_op op_cat (pe_call (ok_q_first_words T) (hr.mono (by decide)) (by rfl) T.g_q_first_words T.F_q_first_words.kp (b_q_first_words T) .nil pass0 (pa_cons (pv 0) pa_nil)) (pe_lc (own := [("_law_word", 2), ("_law_told", 3)]) (g := (gTup K 2 (gCons (gName 2) (gCons (gName 3) gNil)))) (by rfl) sc_q_words.nd (pi_seq (pv 1)) (blkOk_by (own := [("_law_word", 2), ("_law_told", 3)]) (N := N_q_words) (sc := defScope s_q_words) (by decide +kernel)) (fun _ _ _ _ _ => (pg_tup (by rfl) (pgs_cons (pg_name (i := 2) sc_q_words.nd rfl ((by first | exact Or.inl rfl | exact Or.inr rfl))) (pgs_cons (pg_name (i := 3) sc_q_words.nd rfl ((by first | exact Or.inl rfl | exact Or.inr rfl))) pgs_nil)))) (fun _ _ _ _ _ => (pts_one (pt_truth (pv 3) (by intro _; rfl)))) (fun _ _ _ _ _ => (pv 2)))))))))))))))))), (ms_seq (ms_set (me_lst (ma_cons (me_tup (ma_cons (me_c fun _ _ => .str _) (ma_cons (me_cb (cm_isH T.hIs) (ma_cons me_var (ma_cons (me_cls T.n_InvalidDeeds) ma_nil))) ma_nil))) (ma_cons (me_tup (ma_cons (me_c fun _ _ => .str _) (ma_cons (me_cb (cm_isH T.hIs) (ma_cons me_var (ma_cons (me_cls T.n_InvalidText) ma_nil))) ma_nil))) ma_nil))))
    (ms_seq (ms_set (me_op om_cat me_var (me_lst (ma_cons (me_tup (ma_cons (me_c fun _ _ => .str _) (ma_cons (me_cb (cm_isH T.hIs) (ma_cons me_var (ma_cons (me_cls T.n_InvalidCommand) ma_nil))) ma_nil))) (ma_cons (me_tup (ma_cons (me_c fun _ _ => .str _) (ma_cons (me_cb (cm_isH T.hIs) (ma_cons me_var (ma_cons (me_cls T.n_NotAPlan) ma_nil))) ma_nil))) ma_nil)))))
    (ms_seq (ms_set (me_op om_cat me_var (me_lst (ma_cons (me_tup (ma_cons (me_c fun _ _ => .str _) (ma_cons (me_cb (cm_isH T.hIs) (ma_cons me_var (ma_cons (me_cls T.n_NotClaims) ma_nil))) ma_nil))) (ma_cons (me_tup (ma_cons (me_c fun _ _ => .str _) (ma_cons (me_cb (cm_isH T.hIs) (ma_cons me_var (ma_cons (me_cls T.n_NotFlipped) ma_nil))) ma_nil))) ma_nil)))))
    (ms_seq (ms_set (me_op om_cat me_var (me_lst (ma_cons (me_tup (ma_cons (me_c fun _ _ => .str _) (ma_cons (me_cb (cm_isH T.hIs) (ma_cons me_var (ma_cons (me_cls T.n_NotATable) ma_nil))) ma_nil))) (ma_cons (me_tup (ma_cons (me_c fun _ _ => .str _) (ma_cons (me_cb (cm_isH T.hIs) (ma_cons me_var (ma_cons (me_cls T.n_NotASample) ma_nil))) ma_nil))) ma_nil)))))
    (ms_seq (ms_set (me_op om_cat me_var (me_lst (ma_cons (me_tup (ma_cons (me_c fun _ _ => .str _) (ma_cons (me_cb (cm_isH T.hIs) (ma_cons me_var (ma_cons (me_cls T.n_UnknownName) ma_nil))) ma_nil))) (ma_cons (me_tup (ma_cons (me_c fun _ _ => .str _) (ma_cons (me_cb (cm_isH T.hIs) (ma_cons me_var (ma_cons (me_cls T.n_UnknownRow) ma_nil))) ma_nil))) ma_nil)))))
    (ms_seq (ms_set (me_op om_cat me_var (me_lst (ma_cons (me_tup (ma_cons (me_c fun _ _ => .str _) (ma_cons (me_cb (cm_isH T.hIs) (ma_cons me_var (ma_cons (me_cls T.n_KnownRow) ma_nil))) ma_nil))) (ma_cons (me_tup (ma_cons (me_c fun _ _ => .str _) (ma_cons (me_cb (cm_isH T.hIs) (ma_cons me_var (ma_cons (me_cls T.n_SameRank) ma_nil))) ma_nil))) ma_nil)))))
    (ms_seq (ms_set (me_op om_cat me_var (me_lst (ma_cons (me_tup (ma_cons (me_c fun _ _ => .str _) (ma_cons (me_cb (cm_isH T.hIs) (ma_cons me_var (ma_cons (me_cls T.n_Contradiction) ma_nil))) ma_nil))) (ma_cons (me_tup (ma_cons (me_c fun _ _ => .str _) (ma_cons (me_cb (cm_isH T.hIs) (ma_cons me_var (ma_cons (me_cls T.n_NotHeld) ma_nil))) ma_nil))) ma_nil)))))
    (ms_seq (ms_set (me_op om_cat me_var (me_lst (ma_cons (me_tup (ma_cons (me_c fun _ _ => .str _) (ma_cons (me_cb (cm_isH T.hIs) (ma_cons me_var (ma_cons (me_cls T.n_Busy) ma_nil))) ma_nil))) (ma_cons (me_tup (ma_cons (me_c fun _ _ => .str _) (ma_cons (me_cb (cm_isH T.hIs) (ma_cons me_var (ma_cons (me_cls T.n_NothingToUndo) ma_nil))) ma_nil))) ma_nil)))))
    (ms_seq (ms_set (me_op om_cat me_var (me_lst (ma_cons (me_tup (ma_cons (me_c fun _ _ => .str _) (ma_cons (me_cb (cm_isH T.hIs) (ma_cons me_var (ma_cons (me_cls T.n_TooFew) ma_nil))) ma_nil))) (ma_cons (me_tup (ma_cons (me_c fun _ _ => .str _) (ma_cons (me_cb (cm_isH T.hIs) (ma_cons me_var (ma_cons (me_cls T.n_TooFine) ma_nil))) ma_nil))) ma_nil)))))
    (ms_seq (ms_set (me_op om_cat me_var (me_lst (ma_cons (me_tup (ma_cons (me_c fun _ _ => .str _) (ma_cons (me_cb (cm_isH T.hIs) (ma_cons me_var (ma_cons (me_cls T.n_InputError) ma_nil))) ma_nil))) (ma_cons (me_tup (ma_cons (me_c fun _ _ => .str _) (ma_cons (me_cb (cm_isH T.hIs) (ma_cons me_var (ma_cons (me_cls T.n_StateError) ma_nil))) ma_nil))) ma_nil)))))
    (ms_seq (ms_set (me_op om_cat me_var (me_lst (ma_cons (me_tup (ma_cons (me_c fun _ _ => .str _) (ma_cons (me_cb (cm_isH T.hIs) (ma_cons me_var (ma_cons (me_cls T.n_LimitError) ma_nil))) ma_nil))) (ma_cons (me_tup (ma_cons (me_c fun _ _ => .str _) (ma_cons (me_cb (cm_isH T.hIs) (ma_cons me_var (ma_cons (me_c fun _ _ => .ty _) ma_nil))) ma_nil))) ma_nil)))))
    (ms_seq (ms_set (me_op om_cat me_var (me_lst (ma_cons (me_tup (ma_cons (me_c fun _ _ => .str _) (ma_cons (me_cb (cm_isH T.hIs) (ma_cons me_var (ma_cons (me_c fun _ _ => .ty _) ma_nil))) ma_nil))) (ma_cons (me_tup (ma_cons (me_c fun _ _ => .str _) (ma_cons (me_cb (cm_isH T.hIs) (ma_cons me_var (ma_cons (me_c fun _ _ => .ty _) ma_nil))) ma_nil))) ma_nil)))))
    (ms_ret (me_op om_cat (me_call (fun _ _ _ _ z => z) (ma_cons me_var ma_nil)) (me_lc (mi_seq me_var) (mg_tup (mgs_cons mg_name (mgs_cons mg_name mgs_nil))) (mt_truth me_var) me_var)))))))))))))))⟩
theorem ok_q_numbers (T : Txt K mg) : FnOk P w K mg base CX0 3 T.a_q_numbers T.fd_q_numbers ["_law_thing"] (spM K d_q_numbers) :=
  okM (N := N_q_numbers) (m := 1) (b := m_q_numbers) T.F_q_numbers sc_q_numbers rfl (by decide) fun cdv A outer s H E hr => by
    exact ⟨_, (pss_cons (ps_set (i := 1) sc_q_numbers.nd rfl (Or.inl rfl) (pe_lst (pa_cons (pe_tup (pa_cons pe_str (pa_cons (pe_hold T.he_InvalidNumber.oex T.hi_InvalidNumber T.ht_InvalidNumber (oki_InvalidNumber T) (hr.mono (by decide)) (bi_InvalidNumber T) .nil pass0 rfl T.g_InvalidNumber (pa_cons (pv 0) pa_nil)) (pa_cons (OX.pe_fldE (pe_hold T.he_InvalidNumber.oex T.hi_InvalidNumber T.ht_InvalidNumber (oki_InvalidNumber T) (hr.mono (by decide)) (bi_InvalidNumber T) .nil pass0 rfl T.g_InvalidNumber (pa_cons (pv 0) pa_nil))) (pa_cons (OX.pe_fldE (pe_holdK T.he_InvalidNumber.oex T.hi_InvalidNumber T.ht_InvalidNumber (oki_InvalidNumber T) (hr.mono (by decide)) (kbn (K := K) (ps := ["self", "number"]) (ks := ["number"]) (n := 1) [0, 1] (ke_InvalidNumber_number T)) pass0 rfl T.g_InvalidNumber (pk_cons (pv 0) pk_nil))) pa_nil))))) pa_nil)))
    (pss_cons (ps_expr (pe_bm PySem.F.plainAttrs_list PySem.F.slot_list_append PySem.F.type_list_append mt_append (pv 1) (pa_cons (pe_tup (pa_cons pe_str (pa_cons (pe_hold T.he_InvalidRatio.oex T.hi_InvalidRatio T.ht_InvalidRatio (oki_InvalidRatio T) (hr.mono (by decide)) (bi_InvalidRatio T) .nil pass0 rfl T.g_InvalidRatio (pa_cons (pv 0) pa_nil)) (pa_cons (OX.pe_fldE (pe_hold T.he_InvalidRatio.oex T.hi_InvalidRatio T.ht_InvalidRatio (oki_InvalidRatio T) (hr.mono (by decide)) (bi_InvalidRatio T) .nil pass0 rfl T.g_InvalidRatio (pa_cons (pv 0) pa_nil))) (pa_cons (OX.pe_fldE (pe_holdK T.he_InvalidRatio.oex T.hi_InvalidRatio T.ht_InvalidRatio (oki_InvalidRatio T) (hr.mono (by decide)) (kbn (K := K) (ps := ["self", "value"]) (ks := ["value"]) (n := 1) [0, 1] (ke_InvalidRatio_value T)) pass0 rfl T.g_InvalidRatio (pk_cons (pv 0) pk_nil))) pa_nil))))) pa_nil)))
    (pss_cons (ps_expr (pe_bm PySem.F.plainAttrs_list PySem.F.slot_list_append PySem.F.type_list_append mt_append (pv 1) (pa_cons (pe_tup (pa_cons pe_str (pa_cons (pe_hold T.he_InvalidShare.oex T.hi_InvalidShare T.ht_InvalidShare (oki_InvalidShare T) (hr.mono (by decide)) (bi_InvalidShare T) .nil pass0 rfl T.g_InvalidShare (pa_cons (pv 0) pa_nil)) (pa_cons (OX.pe_fldE (pe_hold T.he_InvalidShare.oex T.hi_InvalidShare T.ht_InvalidShare (oki_InvalidShare T) (hr.mono (by decide)) (bi_InvalidShare T) .nil pass0 rfl T.g_InvalidShare (pa_cons (pv 0) pa_nil))) (pa_cons (OX.pe_fldE (pe_holdK T.he_InvalidShare.oex T.hi_InvalidShare T.ht_InvalidShare (oki_InvalidShare T) (hr.mono (by decide)) (kbn (K := K) (ps := ["self", "value"]) (ks := ["value"]) (n := 1) [0, 1] (ke_InvalidShare_value T)) pass0 rfl T.g_InvalidShare (pk_cons (pv 0) pk_nil))) pa_nil))))) pa_nil)))
    (pss_cons (ps_expr (pe_bm PySem.F.plainAttrs_list PySem.F.slot_list_append PySem.F.type_list_append mt_append (pv 1) (pa_cons (pe_tup (pa_cons pe_str (pa_cons (pe_hold T.he_InvalidName.oex T.hi_InvalidName T.ht_InvalidName (oki_InvalidName T) (hr.mono (by decide)) (bi_InvalidName T) .nil pass0 rfl T.g_InvalidName (pa_cons (pv 0) pa_nil)) (pa_cons (OX.pe_fldE (pe_hold T.he_InvalidName.oex T.hi_InvalidName T.ht_InvalidName (oki_InvalidName T) (hr.mono (by decide)) (bi_InvalidName T) .nil pass0 rfl T.g_InvalidName (pa_cons (pv 0) pa_nil))) (pa_cons (OX.pe_fldE (pe_holdK T.he_InvalidName.oex T.hi_InvalidName T.ht_InvalidName (oki_InvalidName T) (hr.mono (by decide)) (kbn (K := K) (ps := ["self", "name"]) (ks := ["name"]) (n := 1) [0, 1] (ke_InvalidName_name T)) pass0 rfl T.g_InvalidName (pk_cons (pv 0) pk_nil))) pa_nil))))) pa_nil)))
    (pss_cons (ps_expr (pe_bm PySem.F.plainAttrs_list PySem.F.slot_list_append PySem.F.type_list_append mt_append (pv 1) (pa_cons (pe_tup (pa_cons pe_str (pa_cons (pe_hold T.he_InvalidState.oex T.hi_InvalidState T.ht_InvalidState (oki_InvalidState T) (hr.mono (by decide)) (bi_InvalidState T) .nil pass0 rfl T.g_InvalidState (pa_cons (pv 0) pa_nil)) (pa_cons (OX.pe_fldE (pe_hold T.he_InvalidState.oex T.hi_InvalidState T.ht_InvalidState (oki_InvalidState T) (hr.mono (by decide)) (bi_InvalidState T) .nil pass0 rfl T.g_InvalidState (pa_cons (pv 0) pa_nil))) (pa_cons (OX.pe_fldE (pe_holdK T.he_InvalidState.oex T.hi_InvalidState T.ht_InvalidState (oki_InvalidState T) (hr.mono (by decide)) (kbn (K := K) (ps := ["self", "state"]) (ks := ["state"]) (n := 1) [0, 1] (ke_InvalidState_state T)) pass0 rfl T.g_InvalidState (pk_cons (pv 0) pk_nil))) pa_nil))))) pa_nil)))
    (pss_cons (ps_expr (pe_bm PySem.F.plainAttrs_list PySem.F.slot_list_append PySem.F.type_list_append mt_append (pv 1) (pa_cons (pe_tup (pa_cons pe_str (pa_cons (pe_hold T.he_InvalidSize.oex T.hi_InvalidSize T.ht_InvalidSize (oki_InvalidSize T) (hr.mono (by decide)) (bi_InvalidSize T) .nil pass0 rfl T.g_InvalidSize (pa_cons (pv 0) pa_nil)) (pa_cons (OX.pe_fldE (pe_hold T.he_InvalidSize.oex T.hi_InvalidSize T.ht_InvalidSize (oki_InvalidSize T) (hr.mono (by decide)) (bi_InvalidSize T) .nil pass0 rfl T.g_InvalidSize (pa_cons (pv 0) pa_nil))) (pa_cons (OX.pe_fldE (pe_holdK T.he_InvalidSize.oex T.hi_InvalidSize T.ht_InvalidSize (oki_InvalidSize T) (hr.mono (by decide)) (kbn (K := K) (ps := ["self", "value"]) (ks := ["value"]) (n := 1) [0, 1] (ke_InvalidSize_value T)) pass0 rfl T.g_InvalidSize (pk_cons (pv 0) pk_nil))) pa_nil))))) pa_nil)))
    (pss_cons (ps_expr (pe_bm PySem.F.plainAttrs_list PySem.F.slot_list_append PySem.F.type_list_append mt_append (pv 1) (pa_cons (pe_tup (pa_cons pe_str (pa_cons (pe_hold T.he_InvalidMarked.oex T.hi_InvalidMarked T.ht_InvalidMarked (oki_InvalidMarked T) (hr.mono (by decide)) (bi_InvalidMarked T) .nil pass0 rfl T.g_InvalidMarked (pa_cons (pv 0) pa_nil)) (pa_cons (OX.pe_fldE (pe_hold T.he_InvalidMarked.oex T.hi_InvalidMarked T.ht_InvalidMarked (oki_InvalidMarked T) (hr.mono (by decide)) (bi_InvalidMarked T) .nil pass0 rfl T.g_InvalidMarked (pa_cons (pv 0) pa_nil))) (pa_cons (OX.pe_fldE (pe_holdK T.he_InvalidMarked.oex T.hi_InvalidMarked T.ht_InvalidMarked (oki_InvalidMarked T) (hr.mono (by decide)) (kbn (K := K) (ps := ["self", "value"]) (ks := ["value"]) (n := 1) [0, 1] (ke_InvalidMarked_value T)) pass0 rfl T.g_InvalidMarked (pk_cons (pv 0) pk_nil))) pa_nil))))) pa_nil)))
    (pss_cons (ps_par (i := 2) (j := 3) (by rfl) sc_q_numbers.nd rfl rfl (by decide) rfl rfl (pa_cons (pe_hold T.he_InvalidModulus.oex T.hi_InvalidModulus T.ht_InvalidModulus (oki_InvalidModulus T) (hr.mono (by decide)) (bi_InvalidModulus T) .nil pass0 rfl T.g_InvalidModulus (pa_cons (pv 0) pa_nil)) (pa_cons (pe_holdK T.he_InvalidModulus.oex T.hi_InvalidModulus T.ht_InvalidModulus (oki_InvalidModulus T) (hr.mono (by decide)) (kbn (K := K) (ps := ["self", "value"]) (ks := ["value"]) (n := 1) [0, 1] (ke_InvalidModulus_value T)) pass0 rfl T.g_InvalidModulus (pk_cons (pv 0) pk_nil)) pa_nil)) (by rfl))
    (pss_cons (ps_expr (pe_bm PySem.F.plainAttrs_list PySem.F.slot_list_append PySem.F.type_list_append mt_append (pv 1) (pa_cons (pe_tup (pa_cons pe_str (pa_cons (pv 2) (pa_cons (OX.pe_fldE (pv 2)) (pa_cons (OX.pe_fldE (pv 3)) pa_nil))))) pa_nil)))
    (pss_cons (ps_expr (pe_bm PySem.F.plainAttrs_list PySem.F.slot_list_append PySem.F.type_list_append mt_append (pv 1) (pa_cons (pe_tup (pa_cons pe_str (pa_cons (pe_hold T.he_InvalidTables.oex T.hi_InvalidTables T.ht_InvalidTables (oki_InvalidTables T) (hr.mono (by decide)) (bi_InvalidTables T) .nil pass0 rfl T.g_InvalidTables (pa_cons (pv 0) pa_nil)) (pa_cons (OX.pe_fldE (pe_hold T.he_InvalidTables.oex T.hi_InvalidTables T.ht_InvalidTables (oki_InvalidTables T) (hr.mono (by decide)) (bi_InvalidTables T) .nil pass0 rfl T.g_InvalidTables (pa_cons (pv 0) pa_nil))) (pa_cons (OX.pe_fldE (pe_holdK T.he_InvalidTables.oex T.hi_InvalidTables T.ht_InvalidTables (oki_InvalidTables T) (hr.mono (by decide)) (kbn (K := K) (ps := ["self", "name"]) (ks := ["name"]) (n := 1) [0, 1] (ke_InvalidTables_name T)) pass0 rfl T.g_InvalidTables (pk_cons (pv 0) pk_nil))) pa_nil))))) pa_nil)))
    (pss_cons (ps_expr (pe_bm PySem.F.plainAttrs_list PySem.F.slot_list_append PySem.F.type_list_append mt_append (pv 1) (pa_cons (pe_tup (pa_cons pe_str (pa_cons (pe_hold T.he_InvalidText.oex T.hi_InvalidText T.ht_InvalidText (oki_InvalidText T) (hr.mono (by decide)) (bi_InvalidText T) .nil pass0 rfl T.g_InvalidText (pa_cons (pv 0) pa_nil)) (pa_cons (OX.pe_fldE (pe_hold T.he_InvalidText.oex T.hi_InvalidText T.ht_InvalidText (oki_InvalidText T) (hr.mono (by decide)) (bi_InvalidText T) .nil pass0 rfl T.g_InvalidText (pa_cons (pv 0) pa_nil))) (pa_cons (OX.pe_fldE (pe_holdK T.he_InvalidText.oex T.hi_InvalidText T.ht_InvalidText (oki_InvalidText T) (hr.mono (by decide)) (kbn (K := K) (ps := ["self", "text"]) (ks := ["text"]) (n := 1) [0, 1] (ke_InvalidText_text T)) pass0 rfl T.g_InvalidText (pk_cons (pv 0) pk_nil))) pa_nil))))) pa_nil)))
    (pss_cons (ps_par (i := 2) (j := 3) (by rfl) sc_q_numbers.nd rfl rfl (by decide) rfl rfl (pa_cons (pe_hold T.he_InvalidCommand.oex T.hi_InvalidCommand T.ht_InvalidCommand (oki_InvalidCommand T) (hr.mono (by decide)) (bi_InvalidCommand T) .nil pass0 rfl T.g_InvalidCommand (pa_cons (pv 0) pa_nil)) (pa_cons (pe_holdK T.he_InvalidCommand.oex T.hi_InvalidCommand T.ht_InvalidCommand (oki_InvalidCommand T) (hr.mono (by decide)) (kbn (K := K) (ps := ["self", "command"]) (ks := ["command"]) (n := 1) [0, 1] (ke_InvalidCommand_command T)) pass0 rfl T.g_InvalidCommand (pk_cons (pv 0) pk_nil)) pa_nil)) (by rfl))
    (pss_cons (ps_expr (pe_bm PySem.F.plainAttrs_list PySem.F.slot_list_append PySem.F.type_list_append mt_append (pv 1) (pa_cons (pe_tup (pa_cons pe_str (pa_cons (pv 2) (pa_cons (OX.pe_fldE (pv 2)) (pa_cons (OX.pe_fldE (pv 3)) pa_nil))))) pa_nil)))
    (pss_one (ps_ret (pv 1)))))))))))))))), (ms_seq (ms_set (me_lst (ma_cons (me_tup (ma_cons (me_c fun _ _ => .str _) (ma_cons (me_hold T.n_InvalidNumber (ma_cons me_var ma_nil)) (ma_cons (me_fldH (hx_InvalidNumber T) (hn_InvalidNumber_number T) (me_hold T.n_InvalidNumber (ma_cons me_var ma_nil))) (ma_cons (me_fldH (hx_InvalidNumber T) (hn_InvalidNumber_number T) (me_holdK T.n_InvalidNumber (fun _ _ => rfl) (ma_cons me_var ma_nil))) ma_nil))))) ma_nil)))
    (ms_seq (ms_expr (me_app (me_tup (ma_cons (me_c fun _ _ => .str _) (ma_cons (me_hold T.n_InvalidRatio (ma_cons me_var ma_nil)) (ma_cons (me_fldH (hx_InvalidRatio T) (hn_InvalidRatio_value T) (me_hold T.n_InvalidRatio (ma_cons me_var ma_nil))) (ma_cons (me_fldH (hx_InvalidRatio T) (hn_InvalidRatio_value T) (me_holdK T.n_InvalidRatio (fun _ _ => rfl) (ma_cons me_var ma_nil))) ma_nil)))))))
    (ms_seq (ms_expr (me_app (me_tup (ma_cons (me_c fun _ _ => .str _) (ma_cons (me_hold T.n_InvalidShare (ma_cons me_var ma_nil)) (ma_cons (me_fldH (hx_InvalidShare T) (hn_InvalidShare_value T) (me_hold T.n_InvalidShare (ma_cons me_var ma_nil))) (ma_cons (me_fldH (hx_InvalidShare T) (hn_InvalidShare_value T) (me_holdK T.n_InvalidShare (fun _ _ => rfl) (ma_cons me_var ma_nil))) ma_nil)))))))
    (ms_seq (ms_expr (me_app (me_tup (ma_cons (me_c fun _ _ => .str _) (ma_cons (me_hold T.n_InvalidName (ma_cons me_var ma_nil)) (ma_cons (me_fldH (hx_InvalidName T) (hn_InvalidName_name T) (me_hold T.n_InvalidName (ma_cons me_var ma_nil))) (ma_cons (me_fldH (hx_InvalidName T) (hn_InvalidName_name T) (me_holdK T.n_InvalidName (fun _ _ => rfl) (ma_cons me_var ma_nil))) ma_nil)))))))
    (ms_seq (ms_expr (me_app (me_tup (ma_cons (me_c fun _ _ => .str _) (ma_cons (me_hold T.n_InvalidState (ma_cons me_var ma_nil)) (ma_cons (me_fldH (hx_InvalidState T) (hn_InvalidState_state T) (me_hold T.n_InvalidState (ma_cons me_var ma_nil))) (ma_cons (me_fldH (hx_InvalidState T) (hn_InvalidState_state T) (me_holdK T.n_InvalidState (fun _ _ => rfl) (ma_cons me_var ma_nil))) ma_nil)))))))
    (ms_seq (ms_expr (me_app (me_tup (ma_cons (me_c fun _ _ => .str _) (ma_cons (me_hold T.n_InvalidSize (ma_cons me_var ma_nil)) (ma_cons (me_fldH (hx_InvalidSize T) (hn_InvalidSize_value T) (me_hold T.n_InvalidSize (ma_cons me_var ma_nil))) (ma_cons (me_fldH (hx_InvalidSize T) (hn_InvalidSize_value T) (me_holdK T.n_InvalidSize (fun _ _ => rfl) (ma_cons me_var ma_nil))) ma_nil)))))))
    (ms_seq (ms_expr (me_app (me_tup (ma_cons (me_c fun _ _ => .str _) (ma_cons (me_hold T.n_InvalidMarked (ma_cons me_var ma_nil)) (ma_cons (me_fldH (hx_InvalidMarked T) (hn_InvalidMarked_value T) (me_hold T.n_InvalidMarked (ma_cons me_var ma_nil))) (ma_cons (me_fldH (hx_InvalidMarked T) (hn_InvalidMarked_value T) (me_holdK T.n_InvalidMarked (fun _ _ => rfl) (ma_cons me_var ma_nil))) ma_nil)))))))
    (ms_seq (ms_par (ma_cons (me_hold T.n_InvalidModulus (ma_cons me_var ma_nil)) (ma_cons (me_holdK T.n_InvalidModulus (fun _ _ => rfl) (ma_cons me_var ma_nil)) ma_nil)))
    (ms_seq (ms_expr (me_app (me_tup (ma_cons (me_c fun _ _ => .str _) (ma_cons me_var (ma_cons (me_fldH (hx_InvalidModulus T) (hn_InvalidModulus_value T) me_var) (ma_cons (me_fldH (hx_InvalidModulus T) (hn_InvalidModulus_value T) me_var) ma_nil)))))))
    (ms_seq (ms_expr (me_app (me_tup (ma_cons (me_c fun _ _ => .str _) (ma_cons (me_hold T.n_InvalidTables (ma_cons me_var ma_nil)) (ma_cons (me_fldH (hx_InvalidTables T) (hn_InvalidTables_name T) (me_hold T.n_InvalidTables (ma_cons me_var ma_nil))) (ma_cons (me_fldH (hx_InvalidTables T) (hn_InvalidTables_name T) (me_holdK T.n_InvalidTables (fun _ _ => rfl) (ma_cons me_var ma_nil))) ma_nil)))))))
    (ms_seq (ms_expr (me_app (me_tup (ma_cons (me_c fun _ _ => .str _) (ma_cons (me_hold T.n_InvalidText (ma_cons me_var ma_nil)) (ma_cons (me_fldH (hx_InvalidText T) (hn_InvalidText_text T) (me_hold T.n_InvalidText (ma_cons me_var ma_nil))) (ma_cons (me_fldH (hx_InvalidText T) (hn_InvalidText_text T) (me_holdK T.n_InvalidText (fun _ _ => rfl) (ma_cons me_var ma_nil))) ma_nil)))))))
    (ms_seq (ms_par (ma_cons (me_hold T.n_InvalidCommand (ma_cons me_var ma_nil)) (ma_cons (me_holdK T.n_InvalidCommand (fun _ _ => rfl) (ma_cons me_var ma_nil)) ma_nil)))
    (ms_seq (ms_expr (me_app (me_tup (ma_cons (me_c fun _ _ => .str _) (ma_cons me_var (ma_cons (me_fldH (hx_InvalidCommand T) (hn_InvalidCommand_command T) me_var) (ma_cons (me_fldH (hx_InvalidCommand T) (hn_InvalidCommand_command T) me_var) ma_nil)))))))
    (ms_ret me_var))))))))))))))⟩
theorem ok_q_places (T : Txt K mg) : FnOk P w K mg base CX0 3 T.a_q_places T.fd_q_places ["_law_thing"] (spM K d_q_places) :=
  okM (N := N_q_places) (m := 1) (b := m_q_places) T.F_q_places sc_q_places rfl (by decide) fun cdv A outer s H E hr => by
    exact ⟨_, (pss_cons (ps_set (i := 1) sc_q_places.nd rfl (Or.inl rfl) (pe_lst (pa_cons (pe_tup (pa_cons pe_str (pa_cons (pe_hold T.he_InvalidRows.oex T.hi_InvalidRows T.ht_InvalidRows (oki_InvalidRows T) (hr.mono (by decide)) (bi_InvalidRows T) .nil pass0 rfl T.g_InvalidRows (pa_cons (pv 0) pa_nil)) (pa_cons (OX.pe_fldE (pe_hold T.he_InvalidRows.oex T.hi_InvalidRows T.ht_InvalidRows (oki_InvalidRows T) (hr.mono (by decide)) (bi_InvalidRows T) .nil pass0 rfl T.g_InvalidRows (pa_cons (pv 0) pa_nil))) (pa_cons (OX.pe_fldE (pe_holdK T.he_InvalidRows.oex T.hi_InvalidRows T.ht_InvalidRows (oki_InvalidRows T) (hr.mono (by decide)) (kbn (K := K) (ps := ["self", "index"]) (ks := ["index"]) (n := 1) [0, 1] (ke_InvalidRows_index T)) pass0 rfl T.g_InvalidRows (pk_cons (pv 0) pk_nil))) pa_nil))))) pa_nil)))
    (pss_cons (ps_expr (pe_bm PySem.F.plainAttrs_list PySem.F.slot_list_append PySem.F.type_list_append mt_append (pv 1) (pa_cons (pe_tup (pa_cons pe_str (pa_cons (pe_hold T.he_InvalidLimits.oex T.hi_InvalidLimits T.ht_InvalidLimits (oki_InvalidLimits T) (hr.mono (by decide)) (bi_InvalidLimits T) .nil pass0 rfl T.g_InvalidLimits (pa_cons (pv 0) pa_nil)) (pa_cons (OX.pe_fldE (pe_hold T.he_InvalidLimits.oex T.hi_InvalidLimits T.ht_InvalidLimits (oki_InvalidLimits T) (hr.mono (by decide)) (bi_InvalidLimits T) .nil pass0 rfl T.g_InvalidLimits (pa_cons (pv 0) pa_nil))) (pa_cons (OX.pe_fldE (pe_holdK T.he_InvalidLimits.oex T.hi_InvalidLimits T.ht_InvalidLimits (oki_InvalidLimits T) (hr.mono (by decide)) (kbn (K := K) (ps := ["self", "index"]) (ks := ["index"]) (n := 1) [0, 1] (ke_InvalidLimits_index T)) pass0 rfl T.g_InvalidLimits (pk_cons (pv 0) pk_nil))) pa_nil))))) pa_nil)))
    (pss_cons (ps_expr (pe_bm PySem.F.plainAttrs_list PySem.F.slot_list_append PySem.F.type_list_append mt_append (pv 1) (pa_cons (pe_tup (pa_cons pe_str (pa_cons (pe_hold T.he_InvalidLooks.oex T.hi_InvalidLooks T.ht_InvalidLooks (oki_InvalidLooks T) (hr.mono (by decide)) (bi_InvalidLooks T) .nil pass0 rfl T.g_InvalidLooks (pa_cons (pv 0) pa_nil)) (pa_cons (OX.pe_fldE (pe_hold T.he_InvalidLooks.oex T.hi_InvalidLooks T.ht_InvalidLooks (oki_InvalidLooks T) (hr.mono (by decide)) (bi_InvalidLooks T) .nil pass0 rfl T.g_InvalidLooks (pa_cons (pv 0) pa_nil))) (pa_cons (OX.pe_fldE (pe_holdK T.he_InvalidLooks.oex T.hi_InvalidLooks T.ht_InvalidLooks (oki_InvalidLooks T) (hr.mono (by decide)) (kbn (K := K) (ps := ["self", "index"]) (ks := ["index"]) (n := 1) [0, 1] (ke_InvalidLooks_index T)) pass0 rfl T.g_InvalidLooks (pk_cons (pv 0) pk_nil))) pa_nil))))) pa_nil)))
    (pss_cons (ps_expr (pe_bm PySem.F.plainAttrs_list PySem.F.slot_list_append PySem.F.type_list_append mt_append (pv 1) (pa_cons (pe_tup (pa_cons pe_str (pa_cons (pe_hold T.he_InvalidMarks.oex T.hi_InvalidMarks T.ht_InvalidMarks (oki_InvalidMarks T) (hr.mono (by decide)) (bi_InvalidMarks T) .nil pass0 rfl T.g_InvalidMarks (pa_cons (pv 0) pa_nil)) (pa_cons (OX.pe_fldE (pe_hold T.he_InvalidMarks.oex T.hi_InvalidMarks T.ht_InvalidMarks (oki_InvalidMarks T) (hr.mono (by decide)) (bi_InvalidMarks T) .nil pass0 rfl T.g_InvalidMarks (pa_cons (pv 0) pa_nil))) (pa_cons (OX.pe_fldE (pe_holdK T.he_InvalidMarks.oex T.hi_InvalidMarks T.ht_InvalidMarks (oki_InvalidMarks T) (hr.mono (by decide)) (kbn (K := K) (ps := ["self", "index"]) (ks := ["index"]) (n := 1) [0, 1] (ke_InvalidMarks_index T)) pass0 rfl T.g_InvalidMarks (pk_cons (pv 0) pk_nil))) pa_nil))))) pa_nil)))
    (pss_cons (ps_expr (pe_bm PySem.F.plainAttrs_list PySem.F.slot_list_append PySem.F.type_list_append mt_append (pv 1) (pa_cons (pe_tup (pa_cons pe_str (pa_cons (pe_hold T.he_InvalidLines.oex T.hi_InvalidLines T.ht_InvalidLines (oki_InvalidLines T) (hr.mono (by decide)) (bi_InvalidLines T) .nil pass0 rfl T.g_InvalidLines (pa_cons (pv 0) pa_nil)) (pa_cons (OX.pe_fldE (pe_hold T.he_InvalidLines.oex T.hi_InvalidLines T.ht_InvalidLines (oki_InvalidLines T) (hr.mono (by decide)) (bi_InvalidLines T) .nil pass0 rfl T.g_InvalidLines (pa_cons (pv 0) pa_nil))) (pa_cons (OX.pe_fldE (pe_holdK T.he_InvalidLines.oex T.hi_InvalidLines T.ht_InvalidLines (oki_InvalidLines T) (hr.mono (by decide)) (kbn (K := K) (ps := ["self", "index"]) (ks := ["index"]) (n := 1) [0, 1] (ke_InvalidLines_index T)) pass0 rfl T.g_InvalidLines (pk_cons (pv 0) pk_nil))) pa_nil))))) pa_nil)))
    (pss_cons (ps_expr (pe_bm PySem.F.plainAttrs_list PySem.F.slot_list_append PySem.F.type_list_append mt_append (pv 1) (pa_cons (pe_tup (pa_cons pe_str (pa_cons (pe_hold T.he_InvalidSeries.oex T.hi_InvalidSeries T.ht_InvalidSeries (oki_InvalidSeries T) (hr.mono (by decide)) (bi_InvalidSeries T) .nil pass0 rfl T.g_InvalidSeries (pa_cons (pv 0) pa_nil)) (pa_cons (OX.pe_fldE (pe_hold T.he_InvalidSeries.oex T.hi_InvalidSeries T.ht_InvalidSeries (oki_InvalidSeries T) (hr.mono (by decide)) (bi_InvalidSeries T) .nil pass0 rfl T.g_InvalidSeries (pa_cons (pv 0) pa_nil))) (pa_cons (OX.pe_fldE (pe_holdK T.he_InvalidSeries.oex T.hi_InvalidSeries T.ht_InvalidSeries (oki_InvalidSeries T) (hr.mono (by decide)) (kbn (K := K) (ps := ["self", "index"]) (ks := ["index"]) (n := 1) [0, 1] (ke_InvalidSeries_index T)) pass0 rfl T.g_InvalidSeries (pk_cons (pv 0) pk_nil))) pa_nil))))) pa_nil)))
    (pss_cons (ps_expr (pe_bm PySem.F.plainAttrs_list PySem.F.slot_list_append PySem.F.type_list_append mt_append (pv 1) (pa_cons (pe_tup (pa_cons pe_str (pa_cons (pe_hold T.he_InvalidKeys.oex T.hi_InvalidKeys T.ht_InvalidKeys (oki_InvalidKeys T) (hr.mono (by decide)) (bi_InvalidKeys T) .nil pass0 rfl T.g_InvalidKeys (pa_cons (pv 0) pa_nil)) (pa_cons (OX.pe_fldE (pe_hold T.he_InvalidKeys.oex T.hi_InvalidKeys T.ht_InvalidKeys (oki_InvalidKeys T) (hr.mono (by decide)) (bi_InvalidKeys T) .nil pass0 rfl T.g_InvalidKeys (pa_cons (pv 0) pa_nil))) (pa_cons (OX.pe_fldE (pe_holdK T.he_InvalidKeys.oex T.hi_InvalidKeys T.ht_InvalidKeys (oki_InvalidKeys T) (hr.mono (by decide)) (kbn (K := K) (ps := ["self", "index"]) (ks := ["index"]) (n := 1) [0, 1] (ke_InvalidKeys_index T)) pass0 rfl T.g_InvalidKeys (pk_cons (pv 0) pk_nil))) pa_nil))))) pa_nil)))
    (pss_cons (ps_expr (pe_bm PySem.F.plainAttrs_list PySem.F.slot_list_append PySem.F.type_list_append mt_append (pv 1) (pa_cons (pe_tup (pa_cons pe_str (pa_cons (pe_hold T.he_InvalidLayers.oex T.hi_InvalidLayers T.ht_InvalidLayers (oki_InvalidLayers T) (hr.mono (by decide)) (bi_InvalidLayers T) .nil pass0 rfl T.g_InvalidLayers (pa_cons (pv 0) pa_nil)) (pa_cons (OX.pe_fldE (pe_hold T.he_InvalidLayers.oex T.hi_InvalidLayers T.ht_InvalidLayers (oki_InvalidLayers T) (hr.mono (by decide)) (bi_InvalidLayers T) .nil pass0 rfl T.g_InvalidLayers (pa_cons (pv 0) pa_nil))) (pa_cons (OX.pe_fldE (pe_holdK T.he_InvalidLayers.oex T.hi_InvalidLayers T.ht_InvalidLayers (oki_InvalidLayers T) (hr.mono (by decide)) (kbn (K := K) (ps := ["self", "index"]) (ks := ["index"]) (n := 1) [0, 1] (ke_InvalidLayers_index T)) pass0 rfl T.g_InvalidLayers (pk_cons (pv 0) pk_nil))) pa_nil))))) pa_nil)))
    (pss_cons (ps_expr (pe_bm PySem.F.plainAttrs_list PySem.F.slot_list_append PySem.F.type_list_append mt_append (pv 1) (pa_cons (pe_tup (pa_cons pe_str (pa_cons (pe_hold T.he_InvalidDeeds.oex T.hi_InvalidDeeds T.ht_InvalidDeeds (oki_InvalidDeeds T) (hr.mono (by decide)) (bi_InvalidDeeds T) .nil pass0 rfl T.g_InvalidDeeds (pa_cons (pv 0) pa_nil)) (pa_cons (OX.pe_fldE (pe_hold T.he_InvalidDeeds.oex T.hi_InvalidDeeds T.ht_InvalidDeeds (oki_InvalidDeeds T) (hr.mono (by decide)) (bi_InvalidDeeds T) .nil pass0 rfl T.g_InvalidDeeds (pa_cons (pv 0) pa_nil))) (pa_cons (OX.pe_fldE (pe_holdK T.he_InvalidDeeds.oex T.hi_InvalidDeeds T.ht_InvalidDeeds (oki_InvalidDeeds T) (hr.mono (by decide)) (kbn (K := K) (ps := ["self", "index"]) (ks := ["index"]) (n := 1) [0, 1] (ke_InvalidDeeds_index T)) pass0 rfl T.g_InvalidDeeds (pk_cons (pv 0) pk_nil))) pa_nil))))) pa_nil)))
    (pss_one (ps_ret (pv 1)))))))))))), (ms_seq (ms_set (me_lst (ma_cons (me_tup (ma_cons (me_c fun _ _ => .str _) (ma_cons (me_hold T.n_InvalidRows (ma_cons me_var ma_nil)) (ma_cons (me_fldH (hx_InvalidRows T) (hn_InvalidRows_index T) (me_hold T.n_InvalidRows (ma_cons me_var ma_nil))) (ma_cons (me_fldH (hx_InvalidRows T) (hn_InvalidRows_index T) (me_holdK T.n_InvalidRows (fun _ _ => rfl) (ma_cons me_var ma_nil))) ma_nil))))) ma_nil)))
    (ms_seq (ms_expr (me_app (me_tup (ma_cons (me_c fun _ _ => .str _) (ma_cons (me_hold T.n_InvalidLimits (ma_cons me_var ma_nil)) (ma_cons (me_fldH (hx_InvalidLimits T) (hn_InvalidLimits_index T) (me_hold T.n_InvalidLimits (ma_cons me_var ma_nil))) (ma_cons (me_fldH (hx_InvalidLimits T) (hn_InvalidLimits_index T) (me_holdK T.n_InvalidLimits (fun _ _ => rfl) (ma_cons me_var ma_nil))) ma_nil)))))))
    (ms_seq (ms_expr (me_app (me_tup (ma_cons (me_c fun _ _ => .str _) (ma_cons (me_hold T.n_InvalidLooks (ma_cons me_var ma_nil)) (ma_cons (me_fldH (hx_InvalidLooks T) (hn_InvalidLooks_index T) (me_hold T.n_InvalidLooks (ma_cons me_var ma_nil))) (ma_cons (me_fldH (hx_InvalidLooks T) (hn_InvalidLooks_index T) (me_holdK T.n_InvalidLooks (fun _ _ => rfl) (ma_cons me_var ma_nil))) ma_nil)))))))
    (ms_seq (ms_expr (me_app (me_tup (ma_cons (me_c fun _ _ => .str _) (ma_cons (me_hold T.n_InvalidMarks (ma_cons me_var ma_nil)) (ma_cons (me_fldH (hx_InvalidMarks T) (hn_InvalidMarks_index T) (me_hold T.n_InvalidMarks (ma_cons me_var ma_nil))) (ma_cons (me_fldH (hx_InvalidMarks T) (hn_InvalidMarks_index T) (me_holdK T.n_InvalidMarks (fun _ _ => rfl) (ma_cons me_var ma_nil))) ma_nil)))))))
    (ms_seq (ms_expr (me_app (me_tup (ma_cons (me_c fun _ _ => .str _) (ma_cons (me_hold T.n_InvalidLines (ma_cons me_var ma_nil)) (ma_cons (me_fldH (hx_InvalidLines T) (hn_InvalidLines_index T) (me_hold T.n_InvalidLines (ma_cons me_var ma_nil))) (ma_cons (me_fldH (hx_InvalidLines T) (hn_InvalidLines_index T) (me_holdK T.n_InvalidLines (fun _ _ => rfl) (ma_cons me_var ma_nil))) ma_nil)))))))
    (ms_seq (ms_expr (me_app (me_tup (ma_cons (me_c fun _ _ => .str _) (ma_cons (me_hold T.n_InvalidSeries (ma_cons me_var ma_nil)) (ma_cons (me_fldH (hx_InvalidSeries T) (hn_InvalidSeries_index T) (me_hold T.n_InvalidSeries (ma_cons me_var ma_nil))) (ma_cons (me_fldH (hx_InvalidSeries T) (hn_InvalidSeries_index T) (me_holdK T.n_InvalidSeries (fun _ _ => rfl) (ma_cons me_var ma_nil))) ma_nil)))))))
    (ms_seq (ms_expr (me_app (me_tup (ma_cons (me_c fun _ _ => .str _) (ma_cons (me_hold T.n_InvalidKeys (ma_cons me_var ma_nil)) (ma_cons (me_fldH (hx_InvalidKeys T) (hn_InvalidKeys_index T) (me_hold T.n_InvalidKeys (ma_cons me_var ma_nil))) (ma_cons (me_fldH (hx_InvalidKeys T) (hn_InvalidKeys_index T) (me_holdK T.n_InvalidKeys (fun _ _ => rfl) (ma_cons me_var ma_nil))) ma_nil)))))))
    (ms_seq (ms_expr (me_app (me_tup (ma_cons (me_c fun _ _ => .str _) (ma_cons (me_hold T.n_InvalidLayers (ma_cons me_var ma_nil)) (ma_cons (me_fldH (hx_InvalidLayers T) (hn_InvalidLayers_index T) (me_hold T.n_InvalidLayers (ma_cons me_var ma_nil))) (ma_cons (me_fldH (hx_InvalidLayers T) (hn_InvalidLayers_index T) (me_holdK T.n_InvalidLayers (fun _ _ => rfl) (ma_cons me_var ma_nil))) ma_nil)))))))
    (ms_seq (ms_expr (me_app (me_tup (ma_cons (me_c fun _ _ => .str _) (ma_cons (me_hold T.n_InvalidDeeds (ma_cons me_var ma_nil)) (ma_cons (me_fldH (hx_InvalidDeeds T) (hn_InvalidDeeds_index T) (me_hold T.n_InvalidDeeds (ma_cons me_var ma_nil))) (ma_cons (me_fldH (hx_InvalidDeeds T) (hn_InvalidDeeds_index T) (me_holdK T.n_InvalidDeeds (fun _ _ => rfl) (ma_cons me_var ma_nil))) ma_nil)))))))
    (ms_ret me_var))))))))))⟩
theorem ok_q_others (T : Txt K mg) : FnOk P w K mg base CX0 3 T.a_q_others T.fd_q_others ["_law_thing"] (spM K d_q_others) :=
  okM (N := N_q_others) (m := 1) (b := m_q_others) T.F_q_others sc_q_others rfl (by decide) fun cdv A outer s H E hr => by
    exact ⟨_, (pss_cons (ps_set (i := 1) sc_q_others.nd rfl (Or.inl rfl) (pe_lst (pa_cons (pe_tup (pa_cons pe_str (pa_cons (pe_hold T.he_NotAPlan.oex T.hi_NotAPlan T.ht_NotAPlan (oki_NotAPlan T) (hr.mono (by decide)) (bi_NotAPlan T) .nil pass0 rfl T.g_NotAPlan (pa_cons (pv 0) pa_nil)) (pa_cons (OX.pe_fldE (pe_hold T.he_NotAPlan.oex T.hi_NotAPlan T.ht_NotAPlan (oki_NotAPlan T) (hr.mono (by decide)) (bi_NotAPlan T) .nil pass0 rfl T.g_NotAPlan (pa_cons (pv 0) pa_nil))) (pa_cons (OX.pe_fldE (pe_holdK T.he_NotAPlan.oex T.hi_NotAPlan T.ht_NotAPlan (oki_NotAPlan T) (hr.mono (by decide)) (kbn (K := K) (ps := ["self", "value"]) (ks := ["value"]) (n := 1) [0, 1] (ke_NotAPlan_value T)) pass0 rfl T.g_NotAPlan (pk_cons (pv 0) pk_nil))) pa_nil))))) pa_nil)))
    (pss_cons (ps_expr (pe_bm PySem.F.plainAttrs_list PySem.F.slot_list_append PySem.F.type_list_append mt_append (pv 1) (pa_cons (pe_tup (pa_cons pe_str (pa_cons (pe_hold T.he_NotClaims.oex T.hi_NotClaims T.ht_NotClaims (oki_NotClaims T) (hr.mono (by decide)) (bi_NotClaims T) .nil pass0 rfl T.g_NotClaims (pa_cons (pv 0) pa_nil)) (pa_cons (OX.pe_fldE (pe_hold T.he_NotClaims.oex T.hi_NotClaims T.ht_NotClaims (oki_NotClaims T) (hr.mono (by decide)) (bi_NotClaims T) .nil pass0 rfl T.g_NotClaims (pa_cons (pv 0) pa_nil))) (pa_cons (OX.pe_fldE (pe_holdK T.he_NotClaims.oex T.hi_NotClaims T.ht_NotClaims (oki_NotClaims T) (hr.mono (by decide)) (kbn (K := K) (ps := ["self", "value"]) (ks := ["value"]) (n := 1) [0, 1] (ke_NotClaims_value T)) pass0 rfl T.g_NotClaims (pk_cons (pv 0) pk_nil))) pa_nil))))) pa_nil)))
    (pss_cons (ps_expr (pe_bm PySem.F.plainAttrs_list PySem.F.slot_list_append PySem.F.type_list_append mt_append (pv 1) (pa_cons (pe_tup (pa_cons pe_str (pa_cons (pe_hold T.he_NotFlipped.oex T.hi_NotFlipped T.ht_NotFlipped (oki_NotFlipped T) (hr.mono (by decide)) (bi_NotFlipped T) .nil pass0 rfl T.g_NotFlipped (pa_cons (pv 0) pa_nil)) (pa_cons (OX.pe_fldE (pe_hold T.he_NotFlipped.oex T.hi_NotFlipped T.ht_NotFlipped (oki_NotFlipped T) (hr.mono (by decide)) (bi_NotFlipped T) .nil pass0 rfl T.g_NotFlipped (pa_cons (pv 0) pa_nil))) (pa_cons (OX.pe_fldE (pe_holdK T.he_NotFlipped.oex T.hi_NotFlipped T.ht_NotFlipped (oki_NotFlipped T) (hr.mono (by decide)) (kbn (K := K) (ps := ["self", "found"]) (ks := ["found"]) (n := 1) [0, 1] (ke_NotFlipped_found T)) pass0 rfl T.g_NotFlipped (pk_cons (pv 0) pk_nil))) pa_nil))))) pa_nil)))
    (pss_cons (ps_expr (pe_bm PySem.F.plainAttrs_list PySem.F.slot_list_append PySem.F.type_list_append mt_append (pv 1) (pa_cons (pe_tup (pa_cons pe_str (pa_cons (pe_hold T.he_NotATable.oex T.hi_NotATable T.ht_NotATable (oki_NotATable T) (hr.mono (by decide)) (bi_NotATable T) .nil pass0 rfl T.g_NotATable (pa_cons (pv 0) pa_nil)) (pa_cons (OX.pe_fldE (pe_hold T.he_NotATable.oex T.hi_NotATable T.ht_NotATable (oki_NotATable T) (hr.mono (by decide)) (bi_NotATable T) .nil pass0 rfl T.g_NotATable (pa_cons (pv 0) pa_nil))) (pa_cons (OX.pe_fldE (pe_holdK T.he_NotATable.oex T.hi_NotATable T.ht_NotATable (oki_NotATable T) (hr.mono (by decide)) (kbn (K := K) (ps := ["self", "value"]) (ks := ["value"]) (n := 1) [0, 1] (ke_NotATable_value T)) pass0 rfl T.g_NotATable (pk_cons (pv 0) pk_nil))) pa_nil))))) pa_nil)))
    (pss_cons (ps_expr (pe_bm PySem.F.plainAttrs_list PySem.F.slot_list_append PySem.F.type_list_append mt_append (pv 1) (pa_cons (pe_tup (pa_cons pe_str (pa_cons (pe_hold T.he_NotASample.oex T.hi_NotASample T.ht_NotASample (oki_NotASample T) (hr.mono (by decide)) (bi_NotASample T) .nil pass0 rfl T.g_NotASample (pa_cons (pv 0) pa_nil)) (pa_cons (OX.pe_fldE (pe_hold T.he_NotASample.oex T.hi_NotASample T.ht_NotASample (oki_NotASample T) (hr.mono (by decide)) (bi_NotASample T) .nil pass0 rfl T.g_NotASample (pa_cons (pv 0) pa_nil))) (pa_cons (OX.pe_fldE (pe_holdK T.he_NotASample.oex T.hi_NotASample T.ht_NotASample (oki_NotASample T) (hr.mono (by decide)) (kbn (K := K) (ps := ["self", "value"]) (ks := ["value"]) (n := 1) [0, 1] (ke_NotASample_value T)) pass0 rfl T.g_NotASample (pk_cons (pv 0) pk_nil))) pa_nil))))) pa_nil)))
    (pss_cons (ps_par (i := 2) (j := 3) (by rfl) sc_q_others.nd rfl rfl (by decide) rfl rfl (pa_cons (pe_hold T.he_NotRising.oex T.hi_NotRising T.ht_NotRising (oki_NotRising T) (hr.mono (by decide)) (bi_NotRising T) .nil pass0 rfl T.g_NotRising (pa_cons (pv 0) (pa_cons (pe_lst (pa_cons (pv 0) pa_nil)) pa_nil))) (pa_cons (pe_holdK T.he_NotRising.oex T.hi_NotRising T.ht_NotRising (oki_NotRising T) (hr.mono (by decide)) (kbn (K := K) (ps := ["self", "marks", "place"]) (ks := ["place", "marks"]) (n := 1) [0, 2, 1] (ke_NotRising_place_marks T)) pass0 rfl T.g_NotRising (pk_cons (pv 0) (pk_cons (pe_tup (pa_cons (pv 0) (pa_cons pe_int pa_nil))) pk_nil))) pa_nil)) (by rfl))
    (pss_cons (ps_set (i := 1) sc_q_others.nd rfl (Or.inl rfl) (pe_op op_cat (pv 1) (pe_lst (pa_cons (pe_tup (pa_cons pe_str (pa_cons (pv 2) (pa_cons (OX.pe_fldE (pv 2)) (pa_cons (OX.pe_fldE (pv 3)) pa_nil))))) (pa_cons (pe_tup (pa_cons pe_str (pa_cons (pv 3) (pa_cons (pe_ix ix_seq (OX.pe_fldE (pv 2)) pe_int (fun _ _ => rfl)) (pa_cons (pe_ix ix_seq (OX.pe_fldE (pv 3)) pe_int (fun _ _ => rfl)) pa_nil))))) pa_nil)))))
    (pss_one (ps_ret (pv 1)))))))))), (ms_seq (ms_set (me_lst (ma_cons (me_tup (ma_cons (me_c fun _ _ => .str _) (ma_cons (me_hold T.n_NotAPlan (ma_cons me_var ma_nil)) (ma_cons (me_fldH (hx_NotAPlan T) (hn_NotAPlan_value T) (me_hold T.n_NotAPlan (ma_cons me_var ma_nil))) (ma_cons (me_fldH (hx_NotAPlan T) (hn_NotAPlan_value T) (me_holdK T.n_NotAPlan (fun _ _ => rfl) (ma_cons me_var ma_nil))) ma_nil))))) ma_nil)))
    (ms_seq (ms_expr (me_app (me_tup (ma_cons (me_c fun _ _ => .str _) (ma_cons (me_hold T.n_NotClaims (ma_cons me_var ma_nil)) (ma_cons (me_fldH (hx_NotClaims T) (hn_NotClaims_value T) (me_hold T.n_NotClaims (ma_cons me_var ma_nil))) (ma_cons (me_fldH (hx_NotClaims T) (hn_NotClaims_value T) (me_holdK T.n_NotClaims (fun _ _ => rfl) (ma_cons me_var ma_nil))) ma_nil)))))))
    (ms_seq (ms_expr (me_app (me_tup (ma_cons (me_c fun _ _ => .str _) (ma_cons (me_hold T.n_NotFlipped (ma_cons me_var ma_nil)) (ma_cons (me_fldH (hx_NotFlipped T) (hn_NotFlipped_found T) (me_hold T.n_NotFlipped (ma_cons me_var ma_nil))) (ma_cons (me_fldH (hx_NotFlipped T) (hn_NotFlipped_found T) (me_holdK T.n_NotFlipped (fun _ _ => rfl) (ma_cons me_var ma_nil))) ma_nil)))))))
    (ms_seq (ms_expr (me_app (me_tup (ma_cons (me_c fun _ _ => .str _) (ma_cons (me_hold T.n_NotATable (ma_cons me_var ma_nil)) (ma_cons (me_fldH (hx_NotATable T) (hn_NotATable_value T) (me_hold T.n_NotATable (ma_cons me_var ma_nil))) (ma_cons (me_fldH (hx_NotATable T) (hn_NotATable_value T) (me_holdK T.n_NotATable (fun _ _ => rfl) (ma_cons me_var ma_nil))) ma_nil)))))))
    (ms_seq (ms_expr (me_app (me_tup (ma_cons (me_c fun _ _ => .str _) (ma_cons (me_hold T.n_NotASample (ma_cons me_var ma_nil)) (ma_cons (me_fldH (hx_NotASample T) (hn_NotASample_value T) (me_hold T.n_NotASample (ma_cons me_var ma_nil))) (ma_cons (me_fldH (hx_NotASample T) (hn_NotASample_value T) (me_holdK T.n_NotASample (fun _ _ => rfl) (ma_cons me_var ma_nil))) ma_nil)))))))
    (ms_seq (ms_par (ma_cons (me_hold2 T.n_NotRising (ma_cons me_var (ma_cons (me_lst (ma_cons me_var ma_nil)) ma_nil))) (ma_cons (me_hold2K T.n_NotRising (fun _ _ _ => rfl) (ma_cons me_var (ma_cons (me_tup (ma_cons me_var (ma_cons (me_c fun _ _ => .int _) ma_nil))) ma_nil))) ma_nil)))
    (ms_seq (ms_set (me_op om_cat me_var (me_lst (ma_cons (me_tup (ma_cons (me_c fun _ _ => .str _) (ma_cons me_var (ma_cons (me_fldH (hx_NotRising T) (hn_NotRising_marks T) me_var) (ma_cons (me_fldH (hx_NotRising T) (hn_NotRising_place T) me_var) ma_nil))))) (ma_cons (me_tup (ma_cons (me_c fun _ _ => .str _) (ma_cons me_var (ma_cons (me_op om_ix (me_fldH (hx_NotRising T) (hn_NotRising_place T) me_var) (me_c fun _ _ => .int _)) (ma_cons (me_op om_ix (me_fldH (hx_NotRising T) (hn_NotRising_marks T) me_var) (me_c fun _ _ => .int _)) ma_nil))))) ma_nil)))))
    (ms_ret me_var))))))))⟩
theorem ok_q_states (T : Txt K mg) : FnOk P w K mg base CX0 3 T.a_q_states T.fd_q_states ["_law_thing"] (spM K d_q_states) :=
  okM (N := N_q_states) (m := 1) (b := m_q_states) T.F_q_states sc_q_states rfl (by decide) fun cdv A outer s H E hr => by
    exact ⟨_, (pss_cons (ps_set (i := 1) sc_q_states.nd rfl (Or.inl rfl) (pe_lst (pa_cons (pe_tup (pa_cons pe_str (pa_cons (pe_hold T.he_UnknownName.oex T.hi_UnknownName T.ht_UnknownName (oki_UnknownName T) (hr.mono (by decide)) (bi_UnknownName T) .nil pass0 rfl T.g_UnknownName (pa_cons (pv 0) pa_nil)) (pa_cons (OX.pe_fldE (pe_hold T.he_UnknownName.oex T.hi_UnknownName T.ht_UnknownName (oki_UnknownName T) (hr.mono (by decide)) (bi_UnknownName T) .nil pass0 rfl T.g_UnknownName (pa_cons (pv 0) pa_nil))) (pa_cons (OX.pe_fldE (pe_holdK T.he_UnknownName.oex T.hi_UnknownName T.ht_UnknownName (oki_UnknownName T) (hr.mono (by decide)) (kbn (K := K) (ps := ["self", "name"]) (ks := ["name"]) (n := 1) [0, 1] (ke_UnknownName_name T)) pass0 rfl T.g_UnknownName (pk_cons (pv 0) pk_nil))) pa_nil))))) pa_nil)))
    (pss_cons (ps_expr (pe_bm PySem.F.plainAttrs_list PySem.F.slot_list_append PySem.F.type_list_append mt_append (pv 1) (pa_cons (pe_tup (pa_cons pe_str (pa_cons (pe_hold T.he_UnknownRow.oex T.hi_UnknownRow T.ht_UnknownRow (oki_UnknownRow T) (hr.mono (by decide)) (bi_UnknownRow T) .nil pass0 rfl T.g_UnknownRow (pa_cons (pv 0) pa_nil)) (pa_cons (OX.pe_fldE (pe_hold T.he_UnknownRow.oex T.hi_UnknownRow T.ht_UnknownRow (oki_UnknownRow T) (hr.mono (by decide)) (bi_UnknownRow T) .nil pass0 rfl T.g_UnknownRow (pa_cons (pv 0) pa_nil))) (pa_cons (OX.pe_fldE (pe_holdK T.he_UnknownRow.oex T.hi_UnknownRow T.ht_UnknownRow (oki_UnknownRow T) (hr.mono (by decide)) (kbn (K := K) (ps := ["self", "key"]) (ks := ["key"]) (n := 1) [0, 1] (ke_UnknownRow_key T)) pass0 rfl T.g_UnknownRow (pk_cons (pv 0) pk_nil))) pa_nil))))) pa_nil)))
    (pss_cons (ps_expr (pe_bm PySem.F.plainAttrs_list PySem.F.slot_list_append PySem.F.type_list_append mt_append (pv 1) (pa_cons (pe_tup (pa_cons pe_str (pa_cons (pe_hold T.he_KnownRow.oex T.hi_KnownRow T.ht_KnownRow (oki_KnownRow T) (hr.mono (by decide)) (bi_KnownRow T) .nil pass0 rfl T.g_KnownRow (pa_cons (pv 0) pa_nil)) (pa_cons (OX.pe_fldE (pe_hold T.he_KnownRow.oex T.hi_KnownRow T.ht_KnownRow (oki_KnownRow T) (hr.mono (by decide)) (bi_KnownRow T) .nil pass0 rfl T.g_KnownRow (pa_cons (pv 0) pa_nil))) (pa_cons (OX.pe_fldE (pe_holdK T.he_KnownRow.oex T.hi_KnownRow T.ht_KnownRow (oki_KnownRow T) (hr.mono (by decide)) (kbn (K := K) (ps := ["self", "key"]) (ks := ["key"]) (n := 1) [0, 1] (ke_KnownRow_key T)) pass0 rfl T.g_KnownRow (pk_cons (pv 0) pk_nil))) pa_nil))))) pa_nil)))
    (pss_cons (ps_expr (pe_bm PySem.F.plainAttrs_list PySem.F.slot_list_append PySem.F.type_list_append mt_append (pv 1) (pa_cons (pe_tup (pa_cons pe_str (pa_cons (pe_hold T.he_SameRank.oex T.hi_SameRank T.ht_SameRank (oki_SameRank T) (hr.mono (by decide)) (bi_SameRank T) .nil pass0 rfl T.g_SameRank (pa_cons (pv 0) pa_nil)) (pa_cons (OX.pe_fldE (pe_hold T.he_SameRank.oex T.hi_SameRank T.ht_SameRank (oki_SameRank T) (hr.mono (by decide)) (bi_SameRank T) .nil pass0 rfl T.g_SameRank (pa_cons (pv 0) pa_nil))) (pa_cons (OX.pe_fldE (pe_holdK T.he_SameRank.oex T.hi_SameRank T.ht_SameRank (oki_SameRank T) (hr.mono (by decide)) (kbn (K := K) (ps := ["self", "rank"]) (ks := ["rank"]) (n := 1) [0, 1] (ke_SameRank_rank T)) pass0 rfl T.g_SameRank (pk_cons (pv 0) pk_nil))) pa_nil))))) pa_nil)))
    (pss_cons (ps_expr (pe_bm PySem.F.plainAttrs_list PySem.F.slot_list_append PySem.F.type_list_append mt_append (pv 1) (pa_cons (pe_tup (pa_cons pe_str (pa_cons (pe_hold T.he_Contradiction.oex T.hi_Contradiction T.ht_Contradiction (oki_Contradiction T) (hr.mono (by decide)) (bi_Contradiction T) .nil pass0 rfl T.g_Contradiction (pa_cons (pv 0) pa_nil)) (pa_cons (OX.pe_fldE (pe_hold T.he_Contradiction.oex T.hi_Contradiction T.ht_Contradiction (oki_Contradiction T) (hr.mono (by decide)) (bi_Contradiction T) .nil pass0 rfl T.g_Contradiction (pa_cons (pv 0) pa_nil))) (pa_cons (OX.pe_fldE (pe_holdK T.he_Contradiction.oex T.hi_Contradiction T.ht_Contradiction (oki_Contradiction T) (hr.mono (by decide)) (kbn (K := K) (ps := ["self", "key"]) (ks := ["key"]) (n := 1) [0, 1] (ke_Contradiction_key T)) pass0 rfl T.g_Contradiction (pk_cons (pv 0) pk_nil))) pa_nil))))) pa_nil)))
    (pss_cons (ps_expr (pe_bm PySem.F.plainAttrs_list PySem.F.slot_list_append PySem.F.type_list_append mt_append (pv 1) (pa_cons (pe_tup (pa_cons pe_str (pa_cons (pe_hold T.he_NotHeld.oex T.hi_NotHeld T.ht_NotHeld (oki_NotHeld T) (hr.mono (by decide)) (bi_NotHeld T) .nil pass0 rfl T.g_NotHeld (pa_cons (pv 0) pa_nil)) (pa_cons (OX.pe_fldE (pe_hold T.he_NotHeld.oex T.hi_NotHeld T.ht_NotHeld (oki_NotHeld T) (hr.mono (by decide)) (bi_NotHeld T) .nil pass0 rfl T.g_NotHeld (pa_cons (pv 0) pa_nil))) (pa_cons (OX.pe_fldE (pe_holdK T.he_NotHeld.oex T.hi_NotHeld T.ht_NotHeld (oki_NotHeld T) (hr.mono (by decide)) (kbn (K := K) (ps := ["self", "found"]) (ks := ["found"]) (n := 1) [0, 1] (ke_NotHeld_found T)) pass0 rfl T.g_NotHeld (pk_cons (pv 0) pk_nil))) pa_nil))))) pa_nil)))
    (pss_cons (ps_expr (pe_bm PySem.F.plainAttrs_list PySem.F.slot_list_append PySem.F.type_list_append mt_append (pv 1) (pa_cons (pe_tup (pa_cons pe_str (pa_cons (pe_hold0 PySem.F.excBase_LookupError T.hq_Busy T.hk_Busy rfl T.g_Busy) (pa_cons (pv 0) (pa_cons (pv 0) pa_nil))))) pa_nil)))
    (pss_cons (ps_expr (pe_bm PySem.F.plainAttrs_list PySem.F.slot_list_append PySem.F.type_list_append mt_append (pv 1) (pa_cons (pe_tup (pa_cons pe_str (pa_cons (pe_hold0 PySem.F.excBase_LookupError T.hq_NothingToUndo T.hk_NothingToUndo rfl T.g_NothingToUndo) (pa_cons (pv 0) (pa_cons (pv 0) pa_nil))))) pa_nil)))
    (pss_one (ps_ret (pv 1))))))))))), (ms_seq (ms_set (me_lst (ma_cons (me_tup (ma_cons (me_c fun _ _ => .str _) (ma_cons (me_hold T.n_UnknownName (ma_cons me_var ma_nil)) (ma_cons (me_fldH (hx_UnknownName T) (hn_UnknownName_name T) (me_hold T.n_UnknownName (ma_cons me_var ma_nil))) (ma_cons (me_fldH (hx_UnknownName T) (hn_UnknownName_name T) (me_holdK T.n_UnknownName (fun _ _ => rfl) (ma_cons me_var ma_nil))) ma_nil))))) ma_nil)))
    (ms_seq (ms_expr (me_app (me_tup (ma_cons (me_c fun _ _ => .str _) (ma_cons (me_hold T.n_UnknownRow (ma_cons me_var ma_nil)) (ma_cons (me_fldH (hx_UnknownRow T) (hn_UnknownRow_key T) (me_hold T.n_UnknownRow (ma_cons me_var ma_nil))) (ma_cons (me_fldH (hx_UnknownRow T) (hn_UnknownRow_key T) (me_holdK T.n_UnknownRow (fun _ _ => rfl) (ma_cons me_var ma_nil))) ma_nil)))))))
    (ms_seq (ms_expr (me_app (me_tup (ma_cons (me_c fun _ _ => .str _) (ma_cons (me_hold T.n_KnownRow (ma_cons me_var ma_nil)) (ma_cons (me_fldH (hx_KnownRow T) (hn_KnownRow_key T) (me_hold T.n_KnownRow (ma_cons me_var ma_nil))) (ma_cons (me_fldH (hx_KnownRow T) (hn_KnownRow_key T) (me_holdK T.n_KnownRow (fun _ _ => rfl) (ma_cons me_var ma_nil))) ma_nil)))))))
    (ms_seq (ms_expr (me_app (me_tup (ma_cons (me_c fun _ _ => .str _) (ma_cons (me_hold T.n_SameRank (ma_cons me_var ma_nil)) (ma_cons (me_fldH (hx_SameRank T) (hn_SameRank_rank T) (me_hold T.n_SameRank (ma_cons me_var ma_nil))) (ma_cons (me_fldH (hx_SameRank T) (hn_SameRank_rank T) (me_holdK T.n_SameRank (fun _ _ => rfl) (ma_cons me_var ma_nil))) ma_nil)))))))
    (ms_seq (ms_expr (me_app (me_tup (ma_cons (me_c fun _ _ => .str _) (ma_cons (me_hold T.n_Contradiction (ma_cons me_var ma_nil)) (ma_cons (me_fldH (hx_Contradiction T) (hn_Contradiction_key T) (me_hold T.n_Contradiction (ma_cons me_var ma_nil))) (ma_cons (me_fldH (hx_Contradiction T) (hn_Contradiction_key T) (me_holdK T.n_Contradiction (fun _ _ => rfl) (ma_cons me_var ma_nil))) ma_nil)))))))
    (ms_seq (ms_expr (me_app (me_tup (ma_cons (me_c fun _ _ => .str _) (ma_cons (me_hold T.n_NotHeld (ma_cons me_var ma_nil)) (ma_cons (me_fldH (hx_NotHeld T) (hn_NotHeld_found T) (me_hold T.n_NotHeld (ma_cons me_var ma_nil))) (ma_cons (me_fldH (hx_NotHeld T) (hn_NotHeld_found T) (me_holdK T.n_NotHeld (fun _ _ => rfl) (ma_cons me_var ma_nil))) ma_nil)))))))
    (ms_seq (ms_expr (me_app (me_tup (ma_cons (me_c fun _ _ => .str _) (ma_cons (me_hold0 T.n_Busy) (ma_cons me_var (ma_cons me_var ma_nil)))))))
    (ms_seq (ms_expr (me_app (me_tup (ma_cons (me_c fun _ _ => .str _) (ma_cons (me_hold0 T.n_NothingToUndo) (ma_cons me_var (ma_cons me_var ma_nil)))))))
    (ms_ret me_var)))))))))⟩
theorem ok_q_limits (T : Txt K mg) : FnOk P w K mg base CX0 3 T.a_q_limits T.fd_q_limits ["_law_thing"] (spM K d_q_limits) :=
  okM (N := N_q_limits) (m := 1) (b := m_q_limits) T.F_q_limits sc_q_limits rfl (by decide) fun cdv A outer s H E hr => by
    exact ⟨_, (pss_cons (ps_set (i := 1) sc_q_limits.nd rfl (Or.inl rfl) (pe_lst (pa_cons (pe_tup (pa_cons pe_str (pa_cons (pe_hold T.he_TooFew.oex T.hi_TooFew T.ht_TooFew (oki_TooFew T) (hr.mono (by decide)) (bi_TooFew T) .nil pass0 rfl T.g_TooFew (pa_cons (pv 0) pa_nil)) (pa_cons (OX.pe_fldE (pe_hold T.he_TooFew.oex T.hi_TooFew T.ht_TooFew (oki_TooFew T) (hr.mono (by decide)) (bi_TooFew T) .nil pass0 rfl T.g_TooFew (pa_cons (pv 0) pa_nil))) (pa_cons (OX.pe_fldE (pe_holdK T.he_TooFew.oex T.hi_TooFew T.ht_TooFew (oki_TooFew T) (hr.mono (by decide)) (kbn (K := K) (ps := ["self", "looked"]) (ks := ["looked"]) (n := 1) [0, 1] (ke_TooFew_looked T)) pass0 rfl T.g_TooFew (pk_cons (pv 0) pk_nil))) pa_nil))))) pa_nil)))
    (pss_cons (ps_expr (pe_bm PySem.F.plainAttrs_list PySem.F.slot_list_append PySem.F.type_list_append mt_append (pv 1) (pa_cons (pe_tup (pa_cons pe_str (pa_cons (pe_hold T.he_TooFine.oex T.hi_TooFine T.ht_TooFine (oki_TooFine T) (hr.mono (by decide)) (bi_TooFine T) .nil pass0 rfl T.g_TooFine (pa_cons (pv 0) pa_nil)) (pa_cons (OX.pe_fldE (pe_hold T.he_TooFine.oex T.hi_TooFine T.ht_TooFine (oki_TooFine T) (hr.mono (by decide)) (bi_TooFine T) .nil pass0 rfl T.g_TooFine (pa_cons (pv 0) pa_nil))) (pa_cons (OX.pe_fldE (pe_holdK T.he_TooFine.oex T.hi_TooFine T.ht_TooFine (oki_TooFine T) (hr.mono (by decide)) (kbn (K := K) (ps := ["self", "found"]) (ks := ["found"]) (n := 1) [0, 1] (ke_TooFine_found T)) pass0 rfl T.g_TooFine (pk_cons (pv 0) pk_nil))) pa_nil))))) pa_nil)))
    (pss_one (ps_ret (pv 1))))), (ms_seq (ms_set (me_lst (ma_cons (me_tup (ma_cons (me_c fun _ _ => .str _) (ma_cons (me_hold T.n_TooFew (ma_cons me_var ma_nil)) (ma_cons (me_fldH (hx_TooFew T) (hn_TooFew_looked T) (me_hold T.n_TooFew (ma_cons me_var ma_nil))) (ma_cons (me_fldH (hx_TooFew T) (hn_TooFew_looked T) (me_holdK T.n_TooFew (fun _ _ => rfl) (ma_cons me_var ma_nil))) ma_nil))))) ma_nil)))
    (ms_seq (ms_expr (me_app (me_tup (ma_cons (me_c fun _ _ => .str _) (ma_cons (me_hold T.n_TooFine (ma_cons me_var ma_nil)) (ma_cons (me_fldH (hx_TooFine T) (hn_TooFine_found T) (me_hold T.n_TooFine (ma_cons me_var ma_nil))) (ma_cons (me_fldH (hx_TooFine T) (hn_TooFine_found T) (me_holdK T.n_TooFine (fun _ _ => rfl) (ma_cons me_var ma_nil))) ma_nil)))))))
    (ms_ret me_var)))⟩
theorem ok_q_all_right (T : Txt K mg) (Z : Bx T base) : FnG P w K mg base CX0 3 T.a_q_all_right T.fd_q_all_right ["_law_some", "_law_above", "_law_thing"] (spM K d_q_all_right) :=
  gM (N := N_q_all_right) (m := 3) (b := m_q_all_right) T.F_q_all_right sc_q_all_right rfl (by decide) fun cdv A outer s H E hG hr => by
    have hu := GX.room_u hr
    exact ⟨_, (pss_cons (ps_for PassesOwn.never rfl (pi_seq (pv 0)) (pg_tup (by rfl) (pgs_cons (pg_name (i := 3) sc_q_all_right.nd rfl (Or.inl rfl)) (pgs_cons (pg_name (i := 4) sc_q_all_right.nd rfl (Or.inl rfl)) (pgs_cons (pg_name (i := 5) sc_q_all_right.nd rfl (Or.inl rfl)) (pgs_cons (pg_name (i := 6) sc_q_all_right.nd rfl (Or.inl rfl)) pgs_nil))))) (pss_one (ps_if (PW.pt (pw_or (pt_cmpR (op_neD hr.units) (pe_call (ok_q_words T) (hr.mono (by decide)) (by rfl) T.g_q_words T.F_q_words.kp (b_q_words T) .nil pass0 (pa_cons (pv 4) pa_nil)) (pe_op op_cat (pe_lst (pa_cons (pv 3) pa_nil)) (pv 1)) (nomark _)) (pw_or1 (pt_cmpR (op_neD hr.units) (pe_lst (pa_cons (pe_callB (NIx.callR_or (call_reprE Z.sys hG hu) (OX.call_reprO T.m_Ratio___repr__ T.fn_Ratio___repr__ (ok_Ratio___repr__ T) (hr.mono (by decide)) (b_Ratio___repr__ T))) (by rfl) T.z_repr bb_repr (pa_cons (pv 5) pa_nil)) (pa_cons (pe_callB (NIx.callR_or (call_reprE Z.sys hG hu) (OX.call_reprO T.m_Ratio___repr__ T.fn_Ratio___repr__ (ok_Ratio___repr__ T) (hr.mono (by decide)) (b_Ratio___repr__ T))) (by rfl) T.z_repr bb_repr (pa_cons (pv 6) pa_nil)) pa_nil))) (pe_op op_rep (pe_lst (pa_cons (pe_callB (NIx.callR_or (call_reprE Z.sys hG hu) (OX.call_reprO T.m_Ratio___repr__ T.fn_Ratio___repr__ (ok_Ratio___repr__ T) (hr.mono (by decide)) (b_Ratio___repr__ T))) (by rfl) T.z_repr bb_repr (pa_cons (pv 2) pa_nil)) pa_nil)) pe_int) (nomark _))))) (pss_one (ps_ret pe_bl)) pss_nil)))
    (pss_one (ps_ret pe_bl))), (ms_seq (ms_for (mi_seq me_var) (mg_tup (mgs_cons mg_name (mgs_cons mg_name (mgs_cons mg_name (mgs_cons mg_name mgs_nil))))) (ms_if (mt_or (mt_test (me_op om_neD (me_call (fun _ _ _ _ z => z) (ma_cons me_var ma_nil)) (me_op om_cat (me_lst (ma_cons me_var ma_nil)) me_var))) (mt_test (me_op om_neD (me_lst (ma_cons (me_reprO T.k_Ratio.nm me_var) (ma_cons (me_reprO T.k_Ratio.nm me_var) ma_nil))) (me_op om_rep (me_lst (ma_cons (me_reprO T.k_Ratio.nm me_var) ma_nil)) (me_c fun _ _ => .int _))))) (ms_ret (me_c fun _ _ => .bl _)) ms_nil))
    (ms_ret (me_c fun _ _ => .bl _)))⟩
theorem ok_q_right (T : Txt K mg) (Z : Bx T base) : FnG P w K mg base CX0 5 T.a_q_right T.fd_q_right ["_law_purse_here"] (spI K d_q_right) :=
  gMI (N := N_q_right) (m := 1) (b := m_q_right) T.F_q_right sc_q_right rfl (by decide) fun cdv A outer s H E hG hr => by
    have hu := GX.room_u hr
    exact ⟨_, (pss_cons (ps_par (i := 1) (j := 2) (by rfl) sc_q_right.nd rfl rfl (by decide) rfl rfl (pa_cons (pe_call (ok_q_draw T) (hr.mono (by decide)) (by rfl) T.g_q_draw T.F_q_draw.kp (b_q_draw T) .nil pass0 (pa_cons (pv 0) (pa_cons pe_int pa_nil))) (pa_cons (pe_op op_sub (pe_call (ok_q_draw T) (hr.mono (by decide)) (by rfl) T.g_q_draw T.F_q_draw.kp (b_q_draw T) .nil pass0 (pa_cons (pv 0) (pa_cons (pe_op op_pow pe_int pe_int) pa_nil))) (pe_op op_pow pe_int pe_int)) pa_nil)) (by rfl))
    (pss_cons (ps_set (i := 3) sc_q_right.nd rfl (Or.inl rfl) (pe_lst (pa_cons pe_non (pa_cons pe_bl (pa_cons pe_bl (pa_cons pe_str (pa_cons pe_str (pa_cons (pe_tup (pa_cons pe_int (pa_cons (pe_tup (pa_cons pe_int pa_nil)) pa_nil))) (pa_cons (pe_lst (pa_cons pe_int (pa_cons (pe_lst (pa_cons pe_int pa_nil)) pa_nil))) (pa_cons (pe_disp (pps_cons pe_str pe_int pps_nil) (by rfl) (by rfl) (fun z => by cases z) (by decide)) (pa_cons (NIx.pe_makeS (E := fun _ => E0) T.mk_Ratio ((ok_Ratio___init__ T).raw (b_Ratio___init__ T) .nil) (hr.mono (by decide)) (by rfl) T.g_Ratio NIx.passC0 (pa_cons pe_int (pa_cons pe_int pa_nil))) (pa_cons pe_int (pa_cons (pv 2) (pa_cons (pe_tup pa_nil) pa_nil))))))))))))))
    (pss_cons (ps_set (i := 4) sc_q_right.nd rfl (Or.inl rfl) (pe_ix ix_seq (pv 3) (pv 1) (fun _ _ => rfl)))
    (pss_cons (ps_set (i := 5) sc_q_right.nd rfl (Or.inl rfl) (pe_op op_cat (pe_op op_cat (pe_call (ok_q_numbers T) (hr.mono (by decide)) (by rfl) T.g_q_numbers T.F_q_numbers.kp (b_q_numbers T) .nil pass0 (pa_cons (pv 4) pa_nil)) (pe_call (ok_q_places T) (hr.mono (by decide)) (by rfl) T.g_q_places T.F_q_places.kp (b_q_places T) .nil pass0 (pa_cons (pv 4) pa_nil))) (pe_call (ok_q_others T) (hr.mono (by decide)) (by rfl) T.g_q_others T.F_q_others.kp (b_q_others T) .nil pass0 (pa_cons (pv 4) pa_nil))))
    (pss_cons (ps_if (pt_not (pt_truth (pe_callG hG (ok_q_all_right T Z) (hr.mono (by decide)) (by rfl) T.g_q_all_right T.F_q_all_right.kp (b_q_all_right T) pass0 (pa_cons (pv 5) (pa_cons (pe_lst (pa_cons pe_str (pa_cons pe_str pa_nil))) (pa_cons (pv 4) pa_nil)))) (by intro _; rfl))) (pss_one (ps_ret pe_bl)) pss_nil)
    (pss_cons (ps_if (pt_not (pt_truth (pe_callG hG (ok_q_all_right T Z) (hr.mono (by decide)) (by rfl) T.g_q_all_right T.F_q_all_right.kp (b_q_all_right T) pass0 (pa_cons (pe_call (ok_q_states T) (hr.mono (by decide)) (by rfl) T.g_q_states T.F_q_states.kp (b_q_states T) .nil pass0 (pa_cons (pv 4) pa_nil)) (pa_cons (pe_lst (pa_cons pe_str (pa_cons pe_str pa_nil))) (pa_cons (pv 4) pa_nil)))) (by intro _; rfl))) (pss_one (ps_ret pe_bl)) pss_nil)
    (pss_one (ps_ret (pe_callG hG (ok_q_all_right T Z) (hr.mono (by decide)) (by rfl) T.g_q_all_right T.F_q_all_right.kp (b_q_all_right T) pass0 (pa_cons (pe_call (ok_q_limits T) (hr.mono (by decide)) (by rfl) T.g_q_limits T.F_q_limits.kp (b_q_limits T) .nil pass0 (pa_cons (pv 4) pa_nil)) (pa_cons (pe_lst (pa_cons pe_str (pa_cons pe_str pa_nil))) (pa_cons (pv 4) pa_nil)))))))))))), (ms_seq (ms_par (ma_cons (me_callI (fun _ _ _ _ z => z) (ma_cons me_var (ma_cons (me_c fun _ _ => .int _) ma_nil))) (ma_cons (me_op om_sub (me_callI (fun _ _ _ _ z => z) (ma_cons me_var (ma_cons (me_op om_pow (me_c fun _ _ => .int _) (me_c fun _ _ => .int _)) ma_nil))) (me_op om_pow (me_c fun _ _ => .int _) (me_c fun _ _ => .int _))) ma_nil)))
    (ms_seq (ms_set (me_lst (ma_cons (me_c fun _ _ => .non) (ma_cons (me_c fun _ _ => .bl _) (ma_cons (me_c fun _ _ => .bl _) (ma_cons (me_c fun _ _ => .str _) (ma_cons (me_c fun _ _ => .str _) (ma_cons (me_tup (ma_cons (me_c fun _ _ => .int _) (ma_cons (me_tup (ma_cons (me_c fun _ _ => .int _) ma_nil)) ma_nil))) (ma_cons (me_lst (ma_cons (me_c fun _ _ => .int _) (ma_cons (me_lst (ma_cons (me_c fun _ _ => .int _) ma_nil)) ma_nil))) (ma_cons (me_dcK1 (k := .inr (Str.ofString "a")) (v := .int 1) fun _ => .int _) (ma_cons (me_makeS (dvs := []) (td := []) T.k_Ratio.nm (fun _ => .nil) (.inr fun _ _ => noX_ne _) (ma_cons (me_c fun _ _ => .int _) (ma_cons (me_c fun _ _ => .int _) ma_nil))) (ma_cons (me_c fun _ _ => .int _) (ma_cons me_var (ma_cons (me_tup ma_nil) ma_nil))))))))))))))
    (ms_seq (ms_set (me_op om_ix me_var me_var))
    (ms_seq (ms_set (me_op om_cat (me_op om_cat (me_call (fun _ _ _ _ z => z) (ma_cons me_var ma_nil)) (me_call (fun _ _ _ _ z => z) (ma_cons me_var ma_nil))) (me_call (fun _ _ _ _ z => z) (ma_cons me_var ma_nil))))
    (ms_seq (ms_if (mt_not (mt_truth (me_call (fun _ _ _ _ z => z) (ma_cons me_var (ma_cons (me_lst (ma_cons (me_c fun _ _ => .str _) (ma_cons (me_c fun _ _ => .str _) ma_nil))) (ma_cons me_var ma_nil)))))) (ms_ret (me_c fun _ _ => .bl _)) ms_nil)
    (ms_seq (ms_if (mt_not (mt_truth (me_call (fun _ _ _ _ z => z) (ma_cons (me_call (fun _ _ _ _ z => z) (ma_cons me_var ma_nil)) (ma_cons (me_lst (ma_cons (me_c fun _ _ => .str _) (ma_cons (me_c fun _ _ => .str _) ma_nil))) (ma_cons me_var ma_nil)))))) (ms_ret (me_c fun _ _ => .bl _)) ms_nil)
    (ms_ret (me_call (fun _ _ _ _ z => z) (ma_cons (me_call (fun _ _ _ _ z => z) (ma_cons me_var ma_nil)) (ma_cons (me_lst (ma_cons (me_c fun _ _ => .str _) (ma_cons (me_c fun _ _ => .str _) ma_nil))) (ma_cons me_var ma_nil)))))))))))⟩
theorem ok_law (T : Txt K mg) (Z : Bx T base) : FnG P w K mg base CX0 6 T.a_law T.fd_law ["_law_script"] (spM K d_law) :=
  gM (N := N_law) (m := 1) (b := m_law) T.F_law sc_law rfl (by decide) fun cdv A outer s H E hG hr => by
    have hu := GX.room_u hr
    exact ⟨_, (pss_cons (ps_set (i := 1) sc_law.nd rfl (Or.inl rfl) (pe_lst (pa_cons (pe_glob (v := .int 20) rfl T.g_LONGEST ⟨_, rfl⟩) (pa_cons (pe_glob (v := .int 8) rfl T.g_CLASSES ⟨_, rfl⟩) (pa_cons (pe_glob (v := .int 24) rfl T.g_BOTTOM ⟨_, rfl⟩) (pa_cons (pe_glob (v := .int 1000) rfl T.g_OFFSET ⟨_, rfl⟩) (pa_cons (pe_glob (v := .int 1000000000000000000000000000000) rfl T.g_FROM ⟨_, rfl⟩) (pa_cons (pe_glob (v := .int 1000000000000000000000000000000000000000000000000000000000000000000000000000000000000000000000000000000000000000000000000000000000000000000000000000000) rfl T.g_SIZE ⟨_, rfl⟩) (pa_cons (pe_glob (v := .int 5040) rfl T.g_MODULUS ⟨_, rfl⟩) pa_nil)))))))))
    (pss_cons (ps_if (pt_cmpR op_ne (pe_callB (NIx.callR_or (call_reprE Z.sys hG hu) (OX.call_reprO T.m_Ratio___repr__ T.fn_Ratio___repr__ (ok_Ratio___repr__ T) (hr.mono (by decide)) (b_Ratio___repr__ T))) (by rfl) T.z_repr bb_repr (pa_cons (pv 1) pa_nil)) (pe_callB (NIx.callR_or (call_reprE Z.sys hG hu) (OX.call_reprO T.m_Ratio___repr__ T.fn_Ratio___repr__ (ok_Ratio___repr__ T) (hr.mono (by decide)) (b_Ratio___repr__ T))) (by rfl) T.z_repr bb_repr (pa_cons (pe_lst (pa_cons pe_int (pa_cons pe_int (pa_cons pe_int (pa_cons pe_int (pa_cons (pe_op op_pow pe_int pe_int) (pa_cons (pe_op op_mulW (pe_op op_mulW (pe_op op_pow pe_int pe_int) (pe_op op_pow pe_int pe_int)) (pe_op op_pow pe_int pe_int)) (pa_cons pe_int pa_nil)))))))) pa_nil)) (nomark _)) (pss_one (ps_ret pe_bl)) pss_nil)
    (pss_cons (ps_for PassesOwn.never rfl (pi_range1 (by rfl) T.z_range (pa_cons (pe_callB (call_max2 rfl) (by rfl) T.z_max (by decide +kernel) (pa_cons pe_int (pa_cons (pe_callB (call_min2 rfl) (by rfl) T.z_min (by decide +kernel) (pa_cons (pe_callB call_len (by rfl) T.z_len (by decide +kernel) (pa_cons (pv 0) pa_nil)) (pa_cons pe_int pa_nil))) pa_nil))) pa_nil)) (pg_name (i := 2) sc_law.nd rfl (Or.inl rfl)) (pss_one (ps_if (pt_not (pt_truth (pe_callG hG (ok_q_right T Z) (hr.mono (by decide)) (by rfl) T.g_q_right T.F_q_right.kp (b_q_right T) pass0 (pa_cons (pe_call (ok_q_purse T) (hr.mono (by decide)) (by rfl) T.g_q_purse T.F_q_purse.kp (b_q_purse T) .nil pass0 (pa_cons (pv 0) (pa_cons (pv 2) pa_nil))) pa_nil)) (by intro _; rfl))) (pss_one (ps_ret pe_bl)) pss_nil)))
    (pss_one (ps_ret pe_bl))))), (ms_seq (ms_set (me_lst (ma_cons (me_c fun _ _ => .int _) (ma_cons (me_c fun _ _ => .int _) (ma_cons (me_c fun _ _ => .int _) (ma_cons (me_c fun _ _ => .int _) (ma_cons (me_c fun _ _ => .int _) (ma_cons (me_c fun _ _ => .int _) (ma_cons (me_c fun _ _ => .int _) ma_nil)))))))))
    (ms_seq (ms_if (mt_test (me_op om_ne (me_reprO T.k_Ratio.nm me_var) (me_reprO T.k_Ratio.nm (me_lst (ma_cons (me_c fun _ _ => .int _) (ma_cons (me_c fun _ _ => .int _) (ma_cons (me_c fun _ _ => .int _) (ma_cons (me_c fun _ _ => .int _) (ma_cons (me_op om_pow (me_c fun _ _ => .int _) (me_c fun _ _ => .int _)) (ma_cons (me_op om_mul (me_op om_mul (me_op om_pow (me_c fun _ _ => .int _) (me_c fun _ _ => .int _)) (me_op om_pow (me_c fun _ _ => .int _) (me_c fun _ _ => .int _))) (me_op om_pow (me_c fun _ _ => .int _) (me_c fun _ _ => .int _))) (ma_cons (me_c fun _ _ => .int _) ma_nil))))))))))) (ms_ret (me_c fun _ _ => .bl _)) ms_nil)
    (ms_seq (ms_for (mi_rg1 (ma_cons (me_cb (cm_i2 fun _ _ _ _ => .int _) (ma_cons (me_c fun _ _ => .int _) (ma_cons (me_cb (cm_i2 fun _ _ _ _ => .int _) (ma_cons (me_cb cm_len (ma_cons me_var ma_nil)) (ma_cons (me_c fun _ _ => .int _) ma_nil))) ma_nil))) ma_nil)) mg_name (ms_if (mt_not (mt_truth (me_callIO (fun _ _ _ _ z => z) (me_call (fun _ _ _ _ z => z) (ma_cons me_var (ma_cons me_var ma_nil)))))) (ms_ret (me_c fun _ _ => .bl _)) ms_nil))
    (ms_ret (me_c fun _ _ => .bl _)))))⟩
end
end K24
set_option Elab.async false
set_option linter.all false
set_option maxRecDepth 100000
set_option maxHeartbeats 8000000
namespace K24
open PySem PySem.Spec PyProof.Rows L2 GX MX
theorem os_mk {K : PySem.W.Frag} {C D : Str} {a b : Addr} (n : MX.nm K D = b) (o : OTy K b) (k : PySem.W.kitOne K (.ref b) (.ref a) = some (decide (D = C))) (f : PySem.W.notFirst K a (.ref b) = true) :
    OTy K (MX.nm K D) ∧ PySem.W.kitOne K (.ref (MX.nm K D)) (.ref a) = some (decide (D = C)) ∧ PySem.W.notFirst K a (.ref (MX.nm K D)) = true := by
  rw [n]
  exact ⟨o, k, f⟩
theorem all_mk {q : Program} {l : PySem.W.OpenLaw} {w : World} {K : PySem.W.Frag} {h : Heap} {mg : Str → Option Value} {fa : Addr} (X : K.In h) (G : h.Ns mainGlobals mg) (hfa : mg "law" = some (.ref fa))
    {t_BOTTOM : Tok}
    {t_CLASSES : Tok}
    {t_FROM : Tok}
    {t_LONGEST : Tok}
    {t_MODULUS : Tok}
    {t_OFFSET : Tok}
    {t_SIZE : Tok}
    {A_InputError : Addr}
    {A_InvalidNumber : Addr}
    {A_InvalidRatio : Addr}
    {A_InvalidShare : Addr}
    {A_InvalidName : Addr}
    {A_InvalidRows : Addr}
    {A_NotRising : Addr}
    {A_InvalidLimits : Addr}
    {A_InvalidLooks : Addr}
    {A_InvalidMarks : Addr}
    {A_InvalidState : Addr}
    {A_InvalidLines : Addr}
    {A_InvalidSize : Addr}
    {A_InvalidMarked : Addr}
    {A_InvalidSeries : Addr}
    {A_InvalidModulus : Addr}
    {A_InvalidKeys : Addr}
    {A_InvalidLayers : Addr}
    {A_InvalidTables : Addr}
    {A_InvalidDeeds : Addr}
    {A_InvalidText : Addr}
    {A_InvalidCommand : Addr}
    {A_NotAPlan : Addr}
    {A_NotClaims : Addr}
    {A_NotFlipped : Addr}
    {A_NotATable : Addr}
    {A_NotASample : Addr}
    {A_StateError : Addr}
    {A_UnknownName : Addr}
    {A_UnknownRow : Addr}
    {A_KnownRow : Addr}
    {A_SameRank : Addr}
    {A_Contradiction : Addr}
    {A_NotHeld : Addr}
    {A_Busy : Addr}
    {A_NothingToUndo : Addr}
    {A_LimitError : Addr}
    {A_TooFew : Addr}
    {A_TooFine : Addr}
    {A_Ratio : Addr}
    {f_is_integer : Addr}
    {od_is_integer an_is_integer : Option Addr}
    {sl_is_integer : Array (Option Value)}
    {oc_is_integer kV_is_integer dc_is_integer pm_is_integer cd_is_integer ct_is_integer : Value}
    {f_Ratio___init__ : Addr}
    {od_Ratio___init__ an_Ratio___init__ : Option Addr}
    {sl_Ratio___init__ : Array (Option Value)}
    {oc_Ratio___init__ kV_Ratio___init__ dc_Ratio___init__ pm_Ratio___init__ cd_Ratio___init__ ct_Ratio___init__ : Value}
    {D_Ratio___init__ : Addr}
    {tD_Ratio___init__ : Tok}
    {nD_Ratio___init__ : Nat}
    {ocD_Ratio___init__ : Value}
    {odD_Ratio___init__ : Option Addr}
    {slD_Ratio___init__ : Array (Option Value)}
    {f_Ratio___repr__ : Addr}
    {od_Ratio___repr__ an_Ratio___repr__ : Option Addr}
    {sl_Ratio___repr__ : Array (Option Value)}
    {oc_Ratio___repr__ kV_Ratio___repr__ dc_Ratio___repr__ pm_Ratio___repr__ cd_Ratio___repr__ ct_Ratio___repr__ : Value}
    {f_q_purse : Addr}
    {od_q_purse an_q_purse : Option Addr}
    {sl_q_purse : Array (Option Value)}
    {oc_q_purse kV_q_purse dc_q_purse pm_q_purse cd_q_purse ct_q_purse : Value}
    {f_q_draw : Addr}
    {od_q_draw an_q_draw : Option Addr}
    {sl_q_draw : Array (Option Value)}
    {oc_q_draw kV_q_draw dc_q_draw pm_q_draw cd_q_draw ct_q_draw : Value}
    {f_q_first_words : Addr}
    {od_q_first_words an_q_first_words : Option Addr}
    {sl_q_first_words : Array (Option Value)}
    {oc_q_first_words kV_q_first_words dc_q_first_words pm_q_first_words cd_q_first_words ct_q_first_words : Value}
    {f_q_words : Addr}
    {od_q_words an_q_words : Option Addr}
    {sl_q_words : Array (Option Value)}
    {oc_q_words kV_q_words dc_q_words pm_q_words cd_q_words ct_q_words : Value}
    {f_q_numbers : Addr}
    {od_q_numbers an_q_numbers : Option Addr}
    {sl_q_numbers : Array (Option Value)}
    {oc_q_numbers kV_q_numbers dc_q_numbers pm_q_numbers cd_q_numbers ct_q_numbers : Value}
    {f_q_places : Addr}
    {od_q_places an_q_places : Option Addr}
    {sl_q_places : Array (Option Value)}
    {oc_q_places kV_q_places dc_q_places pm_q_places cd_q_places ct_q_places : Value}
    {f_q_others : Addr}
    {od_q_others an_q_others : Option Addr}
    {sl_q_others : Array (Option Value)}
    {oc_q_others kV_q_others dc_q_others pm_q_others cd_q_others ct_q_others : Value}
    {f_q_states : Addr}
    {od_q_states an_q_states : Option Addr}
    {sl_q_states : Array (Option Value)}
    {oc_q_states kV_q_states dc_q_states pm_q_states cd_q_states ct_q_states : Value}
    {f_q_limits : Addr}
    {od_q_limits an_q_limits : Option Addr}
    {sl_q_limits : Array (Option Value)}
    {oc_q_limits kV_q_limits dc_q_limits pm_q_limits cd_q_limits ct_q_limits : Value}
    {f_q_all_right : Addr}
    {od_q_all_right an_q_all_right : Option Addr}
    {sl_q_all_right : Array (Option Value)}
    {oc_q_all_right kV_q_all_right dc_q_all_right pm_q_all_right cd_q_all_right ct_q_all_right : Value}
    {f_q_right : Addr}
    {od_q_right an_q_right : Option Addr}
    {sl_q_right : Array (Option Value)}
    {oc_q_right kV_q_right dc_q_right pm_q_right cd_q_right ct_q_right : Value}
    {f_law : Addr}
    {od_law an_law : Option Addr}
    {sl_law : Array (Option Value)}
    {oc_law kV_law dc_law pm_law cd_law ct_law : Value}
    {I_InvalidNumber : Addr} {odi_InvalidNumber ani_InvalidNumber : Option Addr} {sli_InvalidNumber : Array (Option Value)} {oci_InvalidNumber kVi_InvalidNumber dci_InvalidNumber pmi_InvalidNumber cdi_InvalidNumber cti_InvalidNumber : Value}
    {I_InvalidRatio : Addr} {odi_InvalidRatio ani_InvalidRatio : Option Addr} {sli_InvalidRatio : Array (Option Value)} {oci_InvalidRatio kVi_InvalidRatio dci_InvalidRatio pmi_InvalidRatio cdi_InvalidRatio cti_InvalidRatio : Value}
    {I_InvalidShare : Addr} {odi_InvalidShare ani_InvalidShare : Option Addr} {sli_InvalidShare : Array (Option Value)} {oci_InvalidShare kVi_InvalidShare dci_InvalidShare pmi_InvalidShare cdi_InvalidShare cti_InvalidShare : Value}
    {I_InvalidName : Addr} {odi_InvalidName ani_InvalidName : Option Addr} {sli_InvalidName : Array (Option Value)} {oci_InvalidName kVi_InvalidName dci_InvalidName pmi_InvalidName cdi_InvalidName cti_InvalidName : Value}
    {I_InvalidRows : Addr} {odi_InvalidRows ani_InvalidRows : Option Addr} {sli_InvalidRows : Array (Option Value)} {oci_InvalidRows kVi_InvalidRows dci_InvalidRows pmi_InvalidRows cdi_InvalidRows cti_InvalidRows : Value}
    {I_NotRising : Addr} {odi_NotRising ani_NotRising : Option Addr} {sli_NotRising : Array (Option Value)} {oci_NotRising kVi_NotRising dci_NotRising pmi_NotRising cdi_NotRising cti_NotRising : Value}
    {I_InvalidLimits : Addr} {odi_InvalidLimits ani_InvalidLimits : Option Addr} {sli_InvalidLimits : Array (Option Value)} {oci_InvalidLimits kVi_InvalidLimits dci_InvalidLimits pmi_InvalidLimits cdi_InvalidLimits cti_InvalidLimits : Value}
    {I_InvalidLooks : Addr} {odi_InvalidLooks ani_InvalidLooks : Option Addr} {sli_InvalidLooks : Array (Option Value)} {oci_InvalidLooks kVi_InvalidLooks dci_InvalidLooks pmi_InvalidLooks cdi_InvalidLooks cti_InvalidLooks : Value}
    {I_InvalidMarks : Addr} {odi_InvalidMarks ani_InvalidMarks : Option Addr} {sli_InvalidMarks : Array (Option Value)} {oci_InvalidMarks kVi_InvalidMarks dci_InvalidMarks pmi_InvalidMarks cdi_InvalidMarks cti_InvalidMarks : Value}
    {I_InvalidState : Addr} {odi_InvalidState ani_InvalidState : Option Addr} {sli_InvalidState : Array (Option Value)} {oci_InvalidState kVi_InvalidState dci_InvalidState pmi_InvalidState cdi_InvalidState cti_InvalidState : Value}
    {I_InvalidLines : Addr} {odi_InvalidLines ani_InvalidLines : Option Addr} {sli_InvalidLines : Array (Option Value)} {oci_InvalidLines kVi_InvalidLines dci_InvalidLines pmi_InvalidLines cdi_InvalidLines cti_InvalidLines : Value}
    {I_InvalidSize : Addr} {odi_InvalidSize ani_InvalidSize : Option Addr} {sli_InvalidSize : Array (Option Value)} {oci_InvalidSize kVi_InvalidSize dci_InvalidSize pmi_InvalidSize cdi_InvalidSize cti_InvalidSize : Value}
    {I_InvalidMarked : Addr} {odi_InvalidMarked ani_InvalidMarked : Option Addr} {sli_InvalidMarked : Array (Option Value)} {oci_InvalidMarked kVi_InvalidMarked dci_InvalidMarked pmi_InvalidMarked cdi_InvalidMarked cti_InvalidMarked : Value}
    {I_InvalidSeries : Addr} {odi_InvalidSeries ani_InvalidSeries : Option Addr} {sli_InvalidSeries : Array (Option Value)} {oci_InvalidSeries kVi_InvalidSeries dci_InvalidSeries pmi_InvalidSeries cdi_InvalidSeries cti_InvalidSeries : Value}
    {I_InvalidModulus : Addr} {odi_InvalidModulus ani_InvalidModulus : Option Addr} {sli_InvalidModulus : Array (Option Value)} {oci_InvalidModulus kVi_InvalidModulus dci_InvalidModulus pmi_InvalidModulus cdi_InvalidModulus cti_InvalidModulus : Value}
    {I_InvalidKeys : Addr} {odi_InvalidKeys ani_InvalidKeys : Option Addr} {sli_InvalidKeys : Array (Option Value)} {oci_InvalidKeys kVi_InvalidKeys dci_InvalidKeys pmi_InvalidKeys cdi_InvalidKeys cti_InvalidKeys : Value}
    {I_InvalidLayers : Addr} {odi_InvalidLayers ani_InvalidLayers : Option Addr} {sli_InvalidLayers : Array (Option Value)} {oci_InvalidLayers kVi_InvalidLayers dci_InvalidLayers pmi_InvalidLayers cdi_InvalidLayers cti_InvalidLayers : Value}
    {I_InvalidTables : Addr} {odi_InvalidTables ani_InvalidTables : Option Addr} {sli_InvalidTables : Array (Option Value)} {oci_InvalidTables kVi_InvalidTables dci_InvalidTables pmi_InvalidTables cdi_InvalidTables cti_InvalidTables : Value}
    {I_InvalidDeeds : Addr} {odi_InvalidDeeds ani_InvalidDeeds : Option Addr} {sli_InvalidDeeds : Array (Option Value)} {oci_InvalidDeeds kVi_InvalidDeeds dci_InvalidDeeds pmi_InvalidDeeds cdi_InvalidDeeds cti_InvalidDeeds : Value}
    {I_InvalidText : Addr} {odi_InvalidText ani_InvalidText : Option Addr} {sli_InvalidText : Array (Option Value)} {oci_InvalidText kVi_InvalidText dci_InvalidText pmi_InvalidText cdi_InvalidText cti_InvalidText : Value}
    {I_InvalidCommand : Addr} {odi_InvalidCommand ani_InvalidCommand : Option Addr} {sli_InvalidCommand : Array (Option Value)} {oci_InvalidCommand kVi_InvalidCommand dci_InvalidCommand pmi_InvalidCommand cdi_InvalidCommand cti_InvalidCommand : Value}
    {I_NotAPlan : Addr} {odi_NotAPlan ani_NotAPlan : Option Addr} {sli_NotAPlan : Array (Option Value)} {oci_NotAPlan kVi_NotAPlan dci_NotAPlan pmi_NotAPlan cdi_NotAPlan cti_NotAPlan : Value}
    {I_NotClaims : Addr} {odi_NotClaims ani_NotClaims : Option Addr} {sli_NotClaims : Array (Option Value)} {oci_NotClaims kVi_NotClaims dci_NotClaims pmi_NotClaims cdi_NotClaims cti_NotClaims : Value}
    {I_NotFlipped : Addr} {odi_NotFlipped ani_NotFlipped : Option Addr} {sli_NotFlipped : Array (Option Value)} {oci_NotFlipped kVi_NotFlipped dci_NotFlipped pmi_NotFlipped cdi_NotFlipped cti_NotFlipped : Value}
    {I_NotATable : Addr} {odi_NotATable ani_NotATable : Option Addr} {sli_NotATable : Array (Option Value)} {oci_NotATable kVi_NotATable dci_NotATable pmi_NotATable cdi_NotATable cti_NotATable : Value}
    {I_NotASample : Addr} {odi_NotASample ani_NotASample : Option Addr} {sli_NotASample : Array (Option Value)} {oci_NotASample kVi_NotASample dci_NotASample pmi_NotASample cdi_NotASample cti_NotASample : Value}
    {I_UnknownName : Addr} {odi_UnknownName ani_UnknownName : Option Addr} {sli_UnknownName : Array (Option Value)} {oci_UnknownName kVi_UnknownName dci_UnknownName pmi_UnknownName cdi_UnknownName cti_UnknownName : Value}
    {I_UnknownRow : Addr} {odi_UnknownRow ani_UnknownRow : Option Addr} {sli_UnknownRow : Array (Option Value)} {oci_UnknownRow kVi_UnknownRow dci_UnknownRow pmi_UnknownRow cdi_UnknownRow cti_UnknownRow : Value}
    {I_KnownRow : Addr} {odi_KnownRow ani_KnownRow : Option Addr} {sli_KnownRow : Array (Option Value)} {oci_KnownRow kVi_KnownRow dci_KnownRow pmi_KnownRow cdi_KnownRow cti_KnownRow : Value}
    {I_SameRank : Addr} {odi_SameRank ani_SameRank : Option Addr} {sli_SameRank : Array (Option Value)} {oci_SameRank kVi_SameRank dci_SameRank pmi_SameRank cdi_SameRank cti_SameRank : Value}
    {I_Contradiction : Addr} {odi_Contradiction ani_Contradiction : Option Addr} {sli_Contradiction : Array (Option Value)} {oci_Contradiction kVi_Contradiction dci_Contradiction pmi_Contradiction cdi_Contradiction cti_Contradiction : Value}
    {I_NotHeld : Addr} {odi_NotHeld ani_NotHeld : Option Addr} {sli_NotHeld : Array (Option Value)} {oci_NotHeld kVi_NotHeld dci_NotHeld pmi_NotHeld cdi_NotHeld cti_NotHeld : Value}
    {I_TooFew : Addr} {odi_TooFew ani_TooFew : Option Addr} {sli_TooFew : Array (Option Value)} {oci_TooFew kVi_TooFew dci_TooFew pmi_TooFew cdi_TooFew cti_TooFew : Value}
    {I_TooFine : Addr} {odi_TooFine ani_TooFine : Option Addr} {sli_TooFine : Array (Option Value)} {oci_TooFine kVi_TooFine dci_TooFine pmi_TooFine cdi_TooFine cti_TooFine : Value}
    (u_BOTTOM : PySem.W.nsIn K mainGlobals "BOTTOM" = some (some (.int 24 t_BOTTOM)))
    (u_CLASSES : PySem.W.nsIn K mainGlobals "CLASSES" = some (some (.int 8 t_CLASSES)))
    (u_FROM : PySem.W.nsIn K mainGlobals "FROM" = some (some (.int 1000000000000000000000000000000 t_FROM)))
    (u_LONGEST : PySem.W.nsIn K mainGlobals "LONGEST" = some (some (.int 20 t_LONGEST)))
    (u_MODULUS : PySem.W.nsIn K mainGlobals "MODULUS" = some (some (.int 5040 t_MODULUS)))
    (u_OFFSET : PySem.W.nsIn K mainGlobals "OFFSET" = some (some (.int 1000 t_OFFSET)))
    (u_SIZE : PySem.W.nsIn K mainGlobals "SIZE" = some (some (.int 1000000000000000000000000000000000000000000000000000000000000000000000000000000000000000000000000000000000000000000000000000000000000000000000000000000 t_SIZE)))
    (u_InputError : PySem.W.nsIn K mainGlobals "InputError" = some (some (.ref A_InputError)))
    (u_InvalidNumber : PySem.W.nsIn K mainGlobals "InvalidNumber" = some (some (.ref A_InvalidNumber)))
    (u_InvalidRatio : PySem.W.nsIn K mainGlobals "InvalidRatio" = some (some (.ref A_InvalidRatio)))
    (u_InvalidShare : PySem.W.nsIn K mainGlobals "InvalidShare" = some (some (.ref A_InvalidShare)))
    (u_InvalidName : PySem.W.nsIn K mainGlobals "InvalidName" = some (some (.ref A_InvalidName)))
    (u_InvalidRows : PySem.W.nsIn K mainGlobals "InvalidRows" = some (some (.ref A_InvalidRows)))
    (u_NotRising : PySem.W.nsIn K mainGlobals "NotRising" = some (some (.ref A_NotRising)))
    (u_InvalidLimits : PySem.W.nsIn K mainGlobals "InvalidLimits" = some (some (.ref A_InvalidLimits)))
    (u_InvalidLooks : PySem.W.nsIn K mainGlobals "InvalidLooks" = some (some (.ref A_InvalidLooks)))
    (u_InvalidMarks : PySem.W.nsIn K mainGlobals "InvalidMarks" = some (some (.ref A_InvalidMarks)))
    (u_InvalidState : PySem.W.nsIn K mainGlobals "InvalidState" = some (some (.ref A_InvalidState)))
    (u_InvalidLines : PySem.W.nsIn K mainGlobals "InvalidLines" = some (some (.ref A_InvalidLines)))
    (u_InvalidSize : PySem.W.nsIn K mainGlobals "InvalidSize" = some (some (.ref A_InvalidSize)))
    (u_InvalidMarked : PySem.W.nsIn K mainGlobals "InvalidMarked" = some (some (.ref A_InvalidMarked)))
    (u_InvalidSeries : PySem.W.nsIn K mainGlobals "InvalidSeries" = some (some (.ref A_InvalidSeries)))
    (u_InvalidModulus : PySem.W.nsIn K mainGlobals "InvalidModulus" = some (some (.ref A_InvalidModulus)))
    (u_InvalidKeys : PySem.W.nsIn K mainGlobals "InvalidKeys" = some (some (.ref A_InvalidKeys)))
    (u_InvalidLayers : PySem.W.nsIn K mainGlobals "InvalidLayers" = some (some (.ref A_InvalidLayers)))
    (u_InvalidTables : PySem.W.nsIn K mainGlobals "InvalidTables" = some (some (.ref A_InvalidTables)))
    (u_InvalidDeeds : PySem.W.nsIn K mainGlobals "InvalidDeeds" = some (some (.ref A_InvalidDeeds)))
    (u_InvalidText : PySem.W.nsIn K mainGlobals "InvalidText" = some (some (.ref A_InvalidText)))
    (u_InvalidCommand : PySem.W.nsIn K mainGlobals "InvalidCommand" = some (some (.ref A_InvalidCommand)))
    (u_NotAPlan : PySem.W.nsIn K mainGlobals "NotAPlan" = some (some (.ref A_NotAPlan)))
    (u_NotClaims : PySem.W.nsIn K mainGlobals "NotClaims" = some (some (.ref A_NotClaims)))
    (u_NotFlipped : PySem.W.nsIn K mainGlobals "NotFlipped" = some (some (.ref A_NotFlipped)))
    (u_NotATable : PySem.W.nsIn K mainGlobals "NotATable" = some (some (.ref A_NotATable)))
    (u_NotASample : PySem.W.nsIn K mainGlobals "NotASample" = some (some (.ref A_NotASample)))
    (u_StateError : PySem.W.nsIn K mainGlobals "StateError" = some (some (.ref A_StateError)))
    (u_UnknownName : PySem.W.nsIn K mainGlobals "UnknownName" = some (some (.ref A_UnknownName)))
    (u_UnknownRow : PySem.W.nsIn K mainGlobals "UnknownRow" = some (some (.ref A_UnknownRow)))
    (u_KnownRow : PySem.W.nsIn K mainGlobals "KnownRow" = some (some (.ref A_KnownRow)))
    (u_SameRank : PySem.W.nsIn K mainGlobals "SameRank" = some (some (.ref A_SameRank)))
    (u_Contradiction : PySem.W.nsIn K mainGlobals "Contradiction" = some (some (.ref A_Contradiction)))
    (u_NotHeld : PySem.W.nsIn K mainGlobals "NotHeld" = some (some (.ref A_NotHeld)))
    (u_Busy : PySem.W.nsIn K mainGlobals "Busy" = some (some (.ref A_Busy)))
    (u_NothingToUndo : PySem.W.nsIn K mainGlobals "NothingToUndo" = some (some (.ref A_NothingToUndo)))
    (u_LimitError : PySem.W.nsIn K mainGlobals "LimitError" = some (some (.ref A_LimitError)))
    (u_TooFew : PySem.W.nsIn K mainGlobals "TooFew" = some (some (.ref A_TooFew)))
    (u_TooFine : PySem.W.nsIn K mainGlobals "TooFine" = some (some (.ref A_TooFine)))
    (u_Ratio : PySem.W.nsIn K mainGlobals "Ratio" = some (some (.ref A_Ratio)))
    (a_is_integer : PySem.W.nsIn K mainGlobals "is_integer" = some (some (.ref f_is_integer)))
    (l_is_integer : K.lookup f_is_integer = some ⟨oc_is_integer, od_is_integer, .func (PySem.W.fnOf "is_integer" "is_integer" (defArgs s_is_integer) (defBody s_is_integer) (defScope s_is_integer) .none kV_is_integer dc_is_integer pm_is_integer an_is_integer cd_is_integer ct_is_integer), sl_is_integer⟩)
    (c_is_integer : PySem.W.codeIn K cd_is_integer "is_integer" = true)
    (k_is_integer : PySem.W.keepIn K (.ref f_is_integer) = true)
    (a_Ratio___init__ : PySem.W.findIn K (.ref A_Ratio) "__init__" = some (some (.ref f_Ratio___init__)))
    (fn_Ratio___init__ : PySem.W.isFn K (.ref f_Ratio___init__) = true)
    (l_Ratio___init__ : K.lookup f_Ratio___init__ = some ⟨oc_Ratio___init__, od_Ratio___init__, .func (PySem.W.fnOf "__init__" "Ratio.__init__" (defArgs s_Ratio___init__) (defBody s_Ratio___init__) (defScope s_Ratio___init__) (.ref D_Ratio___init__) kV_Ratio___init__ dc_Ratio___init__ pm_Ratio___init__ an_Ratio___init__ cd_Ratio___init__ ct_Ratio___init__), sl_Ratio___init__⟩)
    (lD_Ratio___init__ : K.lookup D_Ratio___init__ = some ⟨ocD_Ratio___init__, odD_Ratio___init__, .seq #[.int 1 tD_Ratio___init__] nD_Ratio___init__, slD_Ratio___init__⟩)
    (c_Ratio___init__ : PySem.W.codeIn K cd_Ratio___init__ "Ratio.__init__" = true)
    (k_Ratio___init__ : PySem.W.keepIn K (.ref f_Ratio___init__) = true)
    (a_Ratio___repr__ : PySem.W.findIn K (.ref A_Ratio) "__repr__" = some (some (.ref f_Ratio___repr__)))
    (fn_Ratio___repr__ : PySem.W.isFn K (.ref f_Ratio___repr__) = true)
    (l_Ratio___repr__ : K.lookup f_Ratio___repr__ = some ⟨oc_Ratio___repr__, od_Ratio___repr__, .func (PySem.W.fnOf "__repr__" "Ratio.__repr__" (defArgs s_Ratio___repr__) (defBody s_Ratio___repr__) (defScope s_Ratio___repr__) .none kV_Ratio___repr__ dc_Ratio___repr__ pm_Ratio___repr__ an_Ratio___repr__ cd_Ratio___repr__ ct_Ratio___repr__), sl_Ratio___repr__⟩)
    (c_Ratio___repr__ : PySem.W.codeIn K cd_Ratio___repr__ "Ratio.__repr__" = true)
    (k_Ratio___repr__ : PySem.W.keepIn K (.ref f_Ratio___repr__) = true)
    (a_q_purse : PySem.W.nsIn K mainGlobals "_law_purse" = some (some (.ref f_q_purse)))
    (l_q_purse : K.lookup f_q_purse = some ⟨oc_q_purse, od_q_purse, .func (PySem.W.fnOf "_law_purse" "_law_purse" (defArgs s_q_purse) (defBody s_q_purse) (defScope s_q_purse) .none kV_q_purse dc_q_purse pm_q_purse an_q_purse cd_q_purse ct_q_purse), sl_q_purse⟩)
    (c_q_purse : PySem.W.codeIn K cd_q_purse "_law_purse" = true)
    (k_q_purse : PySem.W.keepIn K (.ref f_q_purse) = true)
    (a_q_draw : PySem.W.nsIn K mainGlobals "_law_draw" = some (some (.ref f_q_draw)))
    (l_q_draw : K.lookup f_q_draw = some ⟨oc_q_draw, od_q_draw, .func (PySem.W.fnOf "_law_draw" "_law_draw" (defArgs s_q_draw) (defBody s_q_draw) (defScope s_q_draw) .none kV_q_draw dc_q_draw pm_q_draw an_q_draw cd_q_draw ct_q_draw), sl_q_draw⟩)
    (c_q_draw : PySem.W.codeIn K cd_q_draw "_law_draw" = true)
    (k_q_draw : PySem.W.keepIn K (.ref f_q_draw) = true)
    (a_q_first_words : PySem.W.nsIn K mainGlobals "_law_first_words" = some (some (.ref f_q_first_words)))
    (l_q_first_words : K.lookup f_q_first_words = some ⟨oc_q_first_words, od_q_first_words, .func (PySem.W.fnOf "_law_first_words" "_law_first_words" (defArgs s_q_first_words) (defBody s_q_first_words) (defScope s_q_first_words) .none kV_q_first_words dc_q_first_words pm_q_first_words an_q_first_words cd_q_first_words ct_q_first_words), sl_q_first_words⟩)
    (c_q_first_words : PySem.W.codeIn K cd_q_first_words "_law_first_words" = true)
    (k_q_first_words : PySem.W.keepIn K (.ref f_q_first_words) = true)
    (a_q_words : PySem.W.nsIn K mainGlobals "_law_words" = some (some (.ref f_q_words)))
    (l_q_words : K.lookup f_q_words = some ⟨oc_q_words, od_q_words, .func (PySem.W.fnOf "_law_words" "_law_words" (defArgs s_q_words) (defBody s_q_words) (defScope s_q_words) .none kV_q_words dc_q_words pm_q_words an_q_words cd_q_words ct_q_words), sl_q_words⟩)
    (c_q_words : PySem.W.codeIn K cd_q_words "_law_words" = true)
    (k_q_words : PySem.W.keepIn K (.ref f_q_words) = true)
    (a_q_numbers : PySem.W.nsIn K mainGlobals "_law_numbers" = some (some (.ref f_q_numbers)))
    (l_q_numbers : K.lookup f_q_numbers = some ⟨oc_q_numbers, od_q_numbers, .func (PySem.W.fnOf "_law_numbers" "_law_numbers" (defArgs s_q_numbers) (defBody s_q_numbers) (defScope s_q_numbers) .none kV_q_numbers dc_q_numbers pm_q_numbers an_q_numbers cd_q_numbers ct_q_numbers), sl_q_numbers⟩)
    (c_q_numbers : PySem.W.codeIn K cd_q_numbers "_law_numbers" = true)
    (k_q_numbers : PySem.W.keepIn K (.ref f_q_numbers) = true)
    (a_q_places : PySem.W.nsIn K mainGlobals "_law_places" = some (some (.ref f_q_places)))
    (l_q_places : K.lookup f_q_places = some ⟨oc_q_places, od_q_places, .func (PySem.W.fnOf "_law_places" "_law_places" (defArgs s_q_places) (defBody s_q_places) (defScope s_q_places) .none kV_q_places dc_q_places pm_q_places an_q_places cd_q_places ct_q_places), sl_q_places⟩)
    (c_q_places : PySem.W.codeIn K cd_q_places "_law_places" = true)
    (k_q_places : PySem.W.keepIn K (.ref f_q_places) = true)
    (a_q_others : PySem.W.nsIn K mainGlobals "_law_others" = some (some (.ref f_q_others)))
    (l_q_others : K.lookup f_q_others = some ⟨oc_q_others, od_q_others, .func (PySem.W.fnOf "_law_others" "_law_others" (defArgs s_q_others) (defBody s_q_others) (defScope s_q_others) .none kV_q_others dc_q_others pm_q_others an_q_others cd_q_others ct_q_others), sl_q_others⟩)
    (c_q_others : PySem.W.codeIn K cd_q_others "_law_others" = true)
    (k_q_others : PySem.W.keepIn K (.ref f_q_others) = true)
    (a_q_states : PySem.W.nsIn K mainGlobals "_law_states" = some (some (.ref f_q_states)))
    (l_q_states : K.lookup f_q_states = some ⟨oc_q_states, od_q_states, .func (PySem.W.fnOf "_law_states" "_law_states" (defArgs s_q_states) (defBody s_q_states) (defScope s_q_states) .none kV_q_states dc_q_states pm_q_states an_q_states cd_q_states ct_q_states), sl_q_states⟩)
    (c_q_states : PySem.W.codeIn K cd_q_states "_law_states" = true)
    (k_q_states : PySem.W.keepIn K (.ref f_q_states) = true)
    (a_q_limits : PySem.W.nsIn K mainGlobals "_law_limits" = some (some (.ref f_q_limits)))
    (l_q_limits : K.lookup f_q_limits = some ⟨oc_q_limits, od_q_limits, .func (PySem.W.fnOf "_law_limits" "_law_limits" (defArgs s_q_limits) (defBody s_q_limits) (defScope s_q_limits) .none kV_q_limits dc_q_limits pm_q_limits an_q_limits cd_q_limits ct_q_limits), sl_q_limits⟩)
    (c_q_limits : PySem.W.codeIn K cd_q_limits "_law_limits" = true)
    (k_q_limits : PySem.W.keepIn K (.ref f_q_limits) = true)
    (a_q_all_right : PySem.W.nsIn K mainGlobals "_law_all_right" = some (some (.ref f_q_all_right)))
    (l_q_all_right : K.lookup f_q_all_right = some ⟨oc_q_all_right, od_q_all_right, .func (PySem.W.fnOf "_law_all_right" "_law_all_right" (defArgs s_q_all_right) (defBody s_q_all_right) (defScope s_q_all_right) .none kV_q_all_right dc_q_all_right pm_q_all_right an_q_all_right cd_q_all_right ct_q_all_right), sl_q_all_right⟩)
    (c_q_all_right : PySem.W.codeIn K cd_q_all_right "_law_all_right" = true)
    (k_q_all_right : PySem.W.keepIn K (.ref f_q_all_right) = true)
    (a_q_right : PySem.W.nsIn K mainGlobals "_law_right" = some (some (.ref f_q_right)))
    (l_q_right : K.lookup f_q_right = some ⟨oc_q_right, od_q_right, .func (PySem.W.fnOf "_law_right" "_law_right" (defArgs s_q_right) (defBody s_q_right) (defScope s_q_right) .none kV_q_right dc_q_right pm_q_right an_q_right cd_q_right ct_q_right), sl_q_right⟩)
    (c_q_right : PySem.W.codeIn K cd_q_right "_law_right" = true)
    (k_q_right : PySem.W.keepIn K (.ref f_q_right) = true)
    (a_law : PySem.W.nsIn K mainGlobals "law" = some (some (.ref f_law)))
    (l_law : K.lookup f_law = some ⟨oc_law, od_law, .func (PySem.W.fnOf "law" "law" (defArgs s_law) (defBody s_law) (defScope s_law) .none kV_law dc_law pm_law an_law cd_law ct_law), sl_law⟩)
    (c_law : PySem.W.codeIn K cd_law "law" = true)
    (k_law : PySem.W.keepIn K (.ref f_law) = true)
    (y_isinstance : PySem.W.nsIn K mainGlobals "isinstance" = some none)
    (y_int : PySem.W.nsIn K mainGlobals "int" = some none)
    (y_bool : PySem.W.nsIn K mainGlobals "bool" = some none)
    (y_len : PySem.W.nsIn K mainGlobals "len" = some none)
    (y_abs : PySem.W.nsIn K mainGlobals "abs" = some none)
    (y_divmod : PySem.W.nsIn K mainGlobals "divmod" = some none)
    (y_ValueError : PySem.W.nsIn K mainGlobals "ValueError" = some none)
    (y_LookupError : PySem.W.nsIn K mainGlobals "LookupError" = some none)
    (y_ArithmeticError : PySem.W.nsIn K mainGlobals "ArithmeticError" = some none)
    (y_repr : PySem.W.nsIn K mainGlobals "repr" = some none)
    (y_range : PySem.W.nsIn K mainGlobals "range" = some none)
    (y_max : PySem.W.nsIn K mainGlobals "max" = some none)
    (y_min : PySem.W.nsIn K mainGlobals "min" = some none)
    (u_gcd : PySem.W.nsIn K mainGlobals "gcd" = some (some (.builtin "math.gcd")))
    (rd_Ratio : PySem.W.readsIn K A_Ratio (.type "type") = true)
    (sg_Ratio : PySem.W.specialIn K (.ref A_Ratio) "__getattribute__" = some (some (.builtin "type.__getattribute__")))
    (kb_dict_Ratio : PySem.W.kitOne K (.ref A_Ratio) (.type "dict") = some false)
    (kb_list_Ratio : PySem.W.kitOne K (.ref A_Ratio) (.type "list") = some false)
    (kb_tuple_Ratio : PySem.W.kitOne K (.ref A_Ratio) (.type "tuple") = some false)
    (kb_str_Ratio : PySem.W.kitOne K (.ref A_Ratio) (.type "str") = some false)
    (kb_int_Ratio : PySem.W.kitOne K (.ref A_Ratio) (.type "int") = some false)
    (kb_bool_Ratio : PySem.W.kitOne K (.ref A_Ratio) (.type "bool") = some false)
    (kb_NoneType_Ratio : PySem.W.kitOne K (.ref A_Ratio) (.type "NoneType") = some false)
    (pg_Ratio : PySem.W.plainGet K A_Ratio Str.empty = true)
    (hd_Ratio : PySem.W.hasDictIn K A_Ratio = true)
    (po_Ratio : PySem.W.plainOver K A_Ratio = true)
    (sa_Ratio : PySem.W.findIn K (.ref A_Ratio) "__setattr__" = some (some (.builtin "object.__setattr__")))
    (nftop_Ratio : PySem.W.findIn K (.ref A_Ratio) "top" = some none)
    (nfbottom_Ratio : PySem.W.findIn K (.ref A_Ratio) "bottom" = some none)
    (nffloor_Ratio : PySem.W.findIn K (.ref A_Ratio) "floor" = some none)
    (ha_Ratio : PySem.W.findIn K (.ref A_Ratio) "__class__" = some (some (.builtin "object.__class__")))
    (hm_Ratio : PySem.W.mroIn K A_Ratio (.type "object") = some true)
    (hn_ : PySem.W.specialIn K (.builtin "object.__class__") "__get__" = some (some (.builtin "getset_descriptor.__get__")))
    (ht_ : PySem.W.takesIn K (.builtin "object.__class__") = some true)
    (ki_dict_Ratio : PySem.W.kitOne K (.type "dict") (.ref A_Ratio) = some false)
    (nf_dict_Ratio : PySem.W.notFirst K A_Ratio (.type "dict") = true)
    (ki_list_Ratio : PySem.W.kitOne K (.type "list") (.ref A_Ratio) = some false)
    (nf_list_Ratio : PySem.W.notFirst K A_Ratio (.type "list") = true)
    (ki_tuple_Ratio : PySem.W.kitOne K (.type "tuple") (.ref A_Ratio) = some false)
    (nf_tuple_Ratio : PySem.W.notFirst K A_Ratio (.type "tuple") = true)
    (ki_str_Ratio : PySem.W.kitOne K (.type "str") (.ref A_Ratio) = some false)
    (nf_str_Ratio : PySem.W.notFirst K A_Ratio (.type "str") = true)
    (ki_int_Ratio : PySem.W.kitOne K (.type "int") (.ref A_Ratio) = some false)
    (nf_int_Ratio : PySem.W.notFirst K A_Ratio (.type "int") = true)
    (ki_bool_Ratio : PySem.W.kitOne K (.type "bool") (.ref A_Ratio) = some false)
    (nf_bool_Ratio : PySem.W.notFirst K A_Ratio (.type "bool") = true)
    (ki_NoneType_Ratio : PySem.W.kitOne K (.type "NoneType") (.ref A_Ratio) = some false)
    (nf_NoneType_Ratio : PySem.W.notFirst K A_Ratio (.type "NoneType") = true)
    (ko_Ratio_Ratio : PySem.W.kitOne K (.ref A_Ratio) (.ref A_Ratio) = some true)
    (no_Ratio_Ratio : PySem.W.notFirst K A_Ratio (.ref A_Ratio) = true)
    (mk_Ratio : PySem.W.makesIn K A_Ratio = true)
    (kp_Ratio : PySem.W.keepIn K (.ref A_Ratio) = true)
    (ii_InvalidNumber : PySem.W.findIn K (.ref A_InvalidNumber) "__init__" = some (some (.ref I_InvalidNumber)))
    (ti_InvalidNumber : PySem.W.typeIn K (.ref I_InvalidNumber) = some (.type "function"))
    (li_InvalidNumber : K.lookup I_InvalidNumber = some ⟨oci_InvalidNumber, odi_InvalidNumber, .func (PySem.W.fnOf "__init__" "InvalidNumber.__init__" (defArgs si_InvalidNumber) (defBody si_InvalidNumber) (defScope si_InvalidNumber) .none kVi_InvalidNumber dci_InvalidNumber pmi_InvalidNumber ani_InvalidNumber cdi_InvalidNumber cti_InvalidNumber), sli_InvalidNumber⟩)
    (ci_InvalidNumber : PySem.W.codeIn K cdi_InvalidNumber "InvalidNumber.__init__" = true)
    (ki_InvalidNumber : PySem.W.keepIn K (.ref I_InvalidNumber) = true)
    (hb_InvalidNumber : errB K A_InvalidNumber [.type "ValueError", .type "Exception", .type "BaseException", .type "object"] "ValueError.__new__" [(Str.ofString "number")] = true)
    (ii_InvalidRatio : PySem.W.findIn K (.ref A_InvalidRatio) "__init__" = some (some (.ref I_InvalidRatio)))
    (ti_InvalidRatio : PySem.W.typeIn K (.ref I_InvalidRatio) = some (.type "function"))
    (li_InvalidRatio : K.lookup I_InvalidRatio = some ⟨oci_InvalidRatio, odi_InvalidRatio, .func (PySem.W.fnOf "__init__" "InvalidRatio.__init__" (defArgs si_InvalidRatio) (defBody si_InvalidRatio) (defScope si_InvalidRatio) .none kVi_InvalidRatio dci_InvalidRatio pmi_InvalidRatio ani_InvalidRatio cdi_InvalidRatio cti_InvalidRatio), sli_InvalidRatio⟩)
    (ci_InvalidRatio : PySem.W.codeIn K cdi_InvalidRatio "InvalidRatio.__init__" = true)
    (ki_InvalidRatio : PySem.W.keepIn K (.ref I_InvalidRatio) = true)
    (hb_InvalidRatio : errB K A_InvalidRatio [.type "ValueError", .type "Exception", .type "BaseException", .type "object"] "ValueError.__new__" [(Str.ofString "value")] = true)
    (ii_InvalidShare : PySem.W.findIn K (.ref A_InvalidShare) "__init__" = some (some (.ref I_InvalidShare)))
    (ti_InvalidShare : PySem.W.typeIn K (.ref I_InvalidShare) = some (.type "function"))
    (li_InvalidShare : K.lookup I_InvalidShare = some ⟨oci_InvalidShare, odi_InvalidShare, .func (PySem.W.fnOf "__init__" "InvalidShare.__init__" (defArgs si_InvalidShare) (defBody si_InvalidShare) (defScope si_InvalidShare) .none kVi_InvalidShare dci_InvalidShare pmi_InvalidShare ani_InvalidShare cdi_InvalidShare cti_InvalidShare), sli_InvalidShare⟩)
    (ci_InvalidShare : PySem.W.codeIn K cdi_InvalidShare "InvalidShare.__init__" = true)
    (ki_InvalidShare : PySem.W.keepIn K (.ref I_InvalidShare) = true)
    (hb_InvalidShare : errB K A_InvalidShare [.type "ValueError", .type "Exception", .type "BaseException", .type "object"] "ValueError.__new__" [(Str.ofString "value")] = true)
    (ii_InvalidName : PySem.W.findIn K (.ref A_InvalidName) "__init__" = some (some (.ref I_InvalidName)))
    (ti_InvalidName : PySem.W.typeIn K (.ref I_InvalidName) = some (.type "function"))
    (li_InvalidName : K.lookup I_InvalidName = some ⟨oci_InvalidName, odi_InvalidName, .func (PySem.W.fnOf "__init__" "InvalidName.__init__" (defArgs si_InvalidName) (defBody si_InvalidName) (defScope si_InvalidName) .none kVi_InvalidName dci_InvalidName pmi_InvalidName ani_InvalidName cdi_InvalidName cti_InvalidName), sli_InvalidName⟩)
    (ci_InvalidName : PySem.W.codeIn K cdi_InvalidName "InvalidName.__init__" = true)
    (ki_InvalidName : PySem.W.keepIn K (.ref I_InvalidName) = true)
    (hb_InvalidName : errB K A_InvalidName [.type "ValueError", .type "Exception", .type "BaseException", .type "object"] "ValueError.__new__" [(Str.ofString "name")] = true)
    (ii_InvalidRows : PySem.W.findIn K (.ref A_InvalidRows) "__init__" = some (some (.ref I_InvalidRows)))
    (ti_InvalidRows : PySem.W.typeIn K (.ref I_InvalidRows) = some (.type "function"))
    (li_InvalidRows : K.lookup I_InvalidRows = some ⟨oci_InvalidRows, odi_InvalidRows, .func (PySem.W.fnOf "__init__" "InvalidRows.__init__" (defArgs si_InvalidRows) (defBody si_InvalidRows) (defScope si_InvalidRows) .none kVi_InvalidRows dci_InvalidRows pmi_InvalidRows ani_InvalidRows cdi_InvalidRows cti_InvalidRows), sli_InvalidRows⟩)
    (ci_InvalidRows : PySem.W.codeIn K cdi_InvalidRows "InvalidRows.__init__" = true)
    (ki_InvalidRows : PySem.W.keepIn K (.ref I_InvalidRows) = true)
    (hb_InvalidRows : errB K A_InvalidRows [.type "ValueError", .type "Exception", .type "BaseException", .type "object"] "ValueError.__new__" [(Str.ofString "index")] = true)
    (ii_NotRising : PySem.W.findIn K (.ref A_NotRising) "__init__" = some (some (.ref I_NotRising)))
    (ti_NotRising : PySem.W.typeIn K (.ref I_NotRising) = some (.type "function"))
    (li_NotRising : K.lookup I_NotRising = some ⟨oci_NotRising, odi_NotRising, .func (PySem.W.fnOf "__init__" "NotRising.__init__" (defArgs si_NotRising) (defBody si_NotRising) (defScope si_NotRising) .none kVi_NotRising dci_NotRising pmi_NotRising ani_NotRising cdi_NotRising cti_NotRising), sli_NotRising⟩)
    (ci_NotRising : PySem.W.codeIn K cdi_NotRising "NotRising.__init__" = true)
    (ki_NotRising : PySem.W.keepIn K (.ref I_NotRising) = true)
    (hb_NotRising : errB K A_NotRising [.type "ValueError", .type "Exception", .type "BaseException", .type "object"] "ValueError.__new__" [(Str.ofString "marks"), (Str.ofString "place")] = true)
    (ii_InvalidLimits : PySem.W.findIn K (.ref A_InvalidLimits) "__init__" = some (some (.ref I_InvalidLimits)))
    (ti_InvalidLimits : PySem.W.typeIn K (.ref I_InvalidLimits) = some (.type "function"))
    (li_InvalidLimits : K.lookup I_InvalidLimits = some ⟨oci_InvalidLimits, odi_InvalidLimits, .func (PySem.W.fnOf "__init__" "InvalidLimits.__init__" (defArgs si_InvalidLimits) (defBody si_InvalidLimits) (defScope si_InvalidLimits) .none kVi_InvalidLimits dci_InvalidLimits pmi_InvalidLimits ani_InvalidLimits cdi_InvalidLimits cti_InvalidLimits), sli_InvalidLimits⟩)
    (ci_InvalidLimits : PySem.W.codeIn K cdi_InvalidLimits "InvalidLimits.__init__" = true)
    (ki_InvalidLimits : PySem.W.keepIn K (.ref I_InvalidLimits) = true)
    (hb_InvalidLimits : errB K A_InvalidLimits [.type "ValueError", .type "Exception", .type "BaseException", .type "object"] "ValueError.__new__" [(Str.ofString "index")] = true)
    (ii_InvalidLooks : PySem.W.findIn K (.ref A_InvalidLooks) "__init__" = some (some (.ref I_InvalidLooks)))
    (ti_InvalidLooks : PySem.W.typeIn K (.ref I_InvalidLooks) = some (.type "function"))
    (li_InvalidLooks : K.lookup I_InvalidLooks = some ⟨oci_InvalidLooks, odi_InvalidLooks, .func (PySem.W.fnOf "__init__" "InvalidLooks.__init__" (defArgs si_InvalidLooks) (defBody si_InvalidLooks) (defScope si_InvalidLooks) .none kVi_InvalidLooks dci_InvalidLooks pmi_InvalidLooks ani_InvalidLooks cdi_InvalidLooks cti_InvalidLooks), sli_InvalidLooks⟩)
    (ci_InvalidLooks : PySem.W.codeIn K cdi_InvalidLooks "InvalidLooks.__init__" = true)
    (ki_InvalidLooks : PySem.W.keepIn K (.ref I_InvalidLooks) = true)
    (hb_InvalidLooks : errB K A_InvalidLooks [.type "ValueError", .type "Exception", .type "BaseException", .type "object"] "ValueError.__new__" [(Str.ofString "index")] = true)
    (ii_InvalidMarks : PySem.W.findIn K (.ref A_InvalidMarks) "__init__" = some (some (.ref I_InvalidMarks)))
    (ti_InvalidMarks : PySem.W.typeIn K (.ref I_InvalidMarks) = some (.type "function"))
    (li_InvalidMarks : K.lookup I_InvalidMarks = some ⟨oci_InvalidMarks, odi_InvalidMarks, .func (PySem.W.fnOf "__init__" "InvalidMarks.__init__" (defArgs si_InvalidMarks) (defBody si_InvalidMarks) (defScope si_InvalidMarks) .none kVi_InvalidMarks dci_InvalidMarks pmi_InvalidMarks ani_InvalidMarks cdi_InvalidMarks cti_InvalidMarks), sli_InvalidMarks⟩)
    (ci_InvalidMarks : PySem.W.codeIn K cdi_InvalidMarks "InvalidMarks.__init__" = true)
    (ki_InvalidMarks : PySem.W.keepIn K (.ref I_InvalidMarks) = true)
    (hb_InvalidMarks : errB K A_InvalidMarks [.type "ValueError", .type "Exception", .type "BaseException", .type "object"] "ValueError.__new__" [(Str.ofString "index")] = true)
    (ii_InvalidState : PySem.W.findIn K (.ref A_InvalidState) "__init__" = some (some (.ref I_InvalidState)))
    (ti_InvalidState : PySem.W.typeIn K (.ref I_InvalidState) = some (.type "function"))
    (li_InvalidState : K.lookup I_InvalidState = some ⟨oci_InvalidState, odi_InvalidState, .func (PySem.W.fnOf "__init__" "InvalidState.__init__" (defArgs si_InvalidState) (defBody si_InvalidState) (defScope si_InvalidState) .none kVi_InvalidState dci_InvalidState pmi_InvalidState ani_InvalidState cdi_InvalidState cti_InvalidState), sli_InvalidState⟩)
    (ci_InvalidState : PySem.W.codeIn K cdi_InvalidState "InvalidState.__init__" = true)
    (ki_InvalidState : PySem.W.keepIn K (.ref I_InvalidState) = true)
    (hb_InvalidState : errB K A_InvalidState [.type "ValueError", .type "Exception", .type "BaseException", .type "object"] "ValueError.__new__" [(Str.ofString "state")] = true)
    (ii_InvalidLines : PySem.W.findIn K (.ref A_InvalidLines) "__init__" = some (some (.ref I_InvalidLines)))
    (ti_InvalidLines : PySem.W.typeIn K (.ref I_InvalidLines) = some (.type "function"))
    (li_InvalidLines : K.lookup I_InvalidLines = some ⟨oci_InvalidLines, odi_InvalidLines, .func (PySem.W.fnOf "__init__" "InvalidLines.__init__" (defArgs si_InvalidLines) (defBody si_InvalidLines) (defScope si_InvalidLines) .none kVi_InvalidLines dci_InvalidLines pmi_InvalidLines ani_InvalidLines cdi_InvalidLines cti_InvalidLines), sli_InvalidLines⟩)
    (ci_InvalidLines : PySem.W.codeIn K cdi_InvalidLines "InvalidLines.__init__" = true)
    (ki_InvalidLines : PySem.W.keepIn K (.ref I_InvalidLines) = true)
    (hb_InvalidLines : errB K A_InvalidLines [.type "ValueError", .type "Exception", .type "BaseException", .type "object"] "ValueError.__new__" [(Str.ofString "index")] = true)
    (ii_InvalidSize : PySem.W.findIn K (.ref A_InvalidSize) "__init__" = some (some (.ref I_InvalidSize)))
    (ti_InvalidSize : PySem.W.typeIn K (.ref I_InvalidSize) = some (.type "function"))
    (li_InvalidSize : K.lookup I_InvalidSize = some ⟨oci_InvalidSize, odi_InvalidSize, .func (PySem.W.fnOf "__init__" "InvalidSize.__init__" (defArgs si_InvalidSize) (defBody si_InvalidSize) (defScope si_InvalidSize) .none kVi_InvalidSize dci_InvalidSize pmi_InvalidSize ani_InvalidSize cdi_InvalidSize cti_InvalidSize), sli_InvalidSize⟩)
    (ci_InvalidSize : PySem.W.codeIn K cdi_InvalidSize "InvalidSize.__init__" = true)
    (ki_InvalidSize : PySem.W.keepIn K (.ref I_InvalidSize) = true)
    (hb_InvalidSize : errB K A_InvalidSize [.type "ValueError", .type "Exception", .type "BaseException", .type "object"] "ValueError.__new__" [(Str.ofString "value")] = true)
    (ii_InvalidMarked : PySem.W.findIn K (.ref A_InvalidMarked) "__init__" = some (some (.ref I_InvalidMarked)))
    (ti_InvalidMarked : PySem.W.typeIn K (.ref I_InvalidMarked) = some (.type "function"))
    (li_InvalidMarked : K.lookup I_InvalidMarked = some ⟨oci_InvalidMarked, odi_InvalidMarked, .func (PySem.W.fnOf "__init__" "InvalidMarked.__init__" (defArgs si_InvalidMarked) (defBody si_InvalidMarked) (defScope si_InvalidMarked) .none kVi_InvalidMarked dci_InvalidMarked pmi_InvalidMarked ani_InvalidMarked cdi_InvalidMarked cti_InvalidMarked), sli_InvalidMarked⟩)
    (ci_InvalidMarked : PySem.W.codeIn K cdi_InvalidMarked "InvalidMarked.__init__" = true)
    (ki_InvalidMarked : PySem.W.keepIn K (.ref I_InvalidMarked) = true)
    (hb_InvalidMarked : errB K A_InvalidMarked [.type "ValueError", .type "Exception", .type "BaseException", .type "object"] "ValueError.__new__" [(Str.ofString "value")] = true)
    (ii_InvalidSeries : PySem.W.findIn K (.ref A_InvalidSeries) "__init__" = some (some (.ref I_InvalidSeries)))
    (ti_InvalidSeries : PySem.W.typeIn K (.ref I_InvalidSeries) = some (.type "function"))
    (li_InvalidSeries : K.lookup I_InvalidSeries = some ⟨oci_InvalidSeries, odi_InvalidSeries, .func (PySem.W.fnOf "__init__" "InvalidSeries.__init__" (defArgs si_InvalidSeries) (defBody si_InvalidSeries) (defScope si_InvalidSeries) .none kVi_InvalidSeries dci_InvalidSeries pmi_InvalidSeries ani_InvalidSeries cdi_InvalidSeries cti_InvalidSeries), sli_InvalidSeries⟩)
    (ci_InvalidSeries : PySem.W.codeIn K cdi_InvalidSeries "InvalidSeries.__init__" = true)
    (ki_InvalidSeries : PySem.W.keepIn K (.ref I_InvalidSeries) = true)
    (hb_InvalidSeries : errB K A_InvalidSeries [.type "ValueError", .type "Exception", .type "BaseException", .type "object"] "ValueError.__new__" [(Str.ofString "index")] = true)
    (ii_InvalidModulus : PySem.W.findIn K (.ref A_InvalidModulus) "__init__" = some (some (.ref I_InvalidModulus)))
    (ti_InvalidModulus : PySem.W.typeIn K (.ref I_InvalidModulus) = some (.type "function"))
    (li_InvalidModulus : K.lookup I_InvalidModulus = some ⟨oci_InvalidModulus, odi_InvalidModulus, .func (PySem.W.fnOf "__init__" "InvalidModulus.__init__" (defArgs si_InvalidModulus) (defBody si_InvalidModulus) (defScope si_InvalidModulus) .none kVi_InvalidModulus dci_InvalidModulus pmi_InvalidModulus ani_InvalidModulus cdi_InvalidModulus cti_InvalidModulus), sli_InvalidModulus⟩)
    (ci_InvalidModulus : PySem.W.codeIn K cdi_InvalidModulus "InvalidModulus.__init__" = true)
    (ki_InvalidModulus : PySem.W.keepIn K (.ref I_InvalidModulus) = true)
    (hb_InvalidModulus : errB K A_InvalidModulus [.type "ValueError", .type "Exception", .type "BaseException", .type "object"] "ValueError.__new__" [(Str.ofString "value")] = true)
    (ii_InvalidKeys : PySem.W.findIn K (.ref A_InvalidKeys) "__init__" = some (some (.ref I_InvalidKeys)))
    (ti_InvalidKeys : PySem.W.typeIn K (.ref I_InvalidKeys) = some (.type "function"))
    (li_InvalidKeys : K.lookup I_InvalidKeys = some ⟨oci_InvalidKeys, odi_InvalidKeys, .func (PySem.W.fnOf "__init__" "InvalidKeys.__init__" (defArgs si_InvalidKeys) (defBody si_InvalidKeys) (defScope si_InvalidKeys) .none kVi_InvalidKeys dci_InvalidKeys pmi_InvalidKeys ani_InvalidKeys cdi_InvalidKeys cti_InvalidKeys), sli_InvalidKeys⟩)
    (ci_InvalidKeys : PySem.W.codeIn K cdi_InvalidKeys "InvalidKeys.__init__" = true)
    (ki_InvalidKeys : PySem.W.keepIn K (.ref I_InvalidKeys) = true)
    (hb_InvalidKeys : errB K A_InvalidKeys [.type "ValueError", .type "Exception", .type "BaseException", .type "object"] "ValueError.__new__" [(Str.ofString "index")] = true)
    (ii_InvalidLayers : PySem.W.findIn K (.ref A_InvalidLayers) "__init__" = some (some (.ref I_InvalidLayers)))
    (ti_InvalidLayers : PySem.W.typeIn K (.ref I_InvalidLayers) = some (.type "function"))
    (li_InvalidLayers : K.lookup I_InvalidLayers = some ⟨oci_InvalidLayers, odi_InvalidLayers, .func (PySem.W.fnOf "__init__" "InvalidLayers.__init__" (defArgs si_InvalidLayers) (defBody si_InvalidLayers) (defScope si_InvalidLayers) .none kVi_InvalidLayers dci_InvalidLayers pmi_InvalidLayers ani_InvalidLayers cdi_InvalidLayers cti_InvalidLayers), sli_InvalidLayers⟩)
    (ci_InvalidLayers : PySem.W.codeIn K cdi_InvalidLayers "InvalidLayers.__init__" = true)
    (ki_InvalidLayers : PySem.W.keepIn K (.ref I_InvalidLayers) = true)
    (hb_InvalidLayers : errB K A_InvalidLayers [.type "ValueError", .type "Exception", .type "BaseException", .type "object"] "ValueError.__new__" [(Str.ofString "index")] = true)
    (ii_InvalidTables : PySem.W.findIn K (.ref A_InvalidTables) "__init__" = some (some (.ref I_InvalidTables)))
    (ti_InvalidTables : PySem.W.typeIn K (.ref I_InvalidTables) = some (.type "function"))
    (li_InvalidTables : K.lookup I_InvalidTables = some ⟨oci_InvalidTables, odi_InvalidTables, .func (PySem.W.fnOf "__init__" "InvalidTables.__init__" (defArgs si_InvalidTables) (defBody si_InvalidTables) (defScope si_InvalidTables) .none kVi_InvalidTables dci_InvalidTables pmi_InvalidTables ani_InvalidTables cdi_InvalidTables cti_InvalidTables), sli_InvalidTables⟩)
    (ci_InvalidTables : PySem.W.codeIn K cdi_InvalidTables "InvalidTables.__init__" = true)
    (ki_InvalidTables : PySem.W.keepIn K (.ref I_InvalidTables) = true)
    (hb_InvalidTables : errB K A_InvalidTables [.type "ValueError", .type "Exception", .type "BaseException", .type "object"] "ValueError.__new__" [(Str.ofString "name")] = true)
    (ii_InvalidDeeds : PySem.W.findIn K (.ref A_InvalidDeeds) "__init__" = some (some (.ref I_InvalidDeeds)))
    (ti_InvalidDeeds : PySem.W.typeIn K (.ref I_InvalidDeeds) = some (.type "function"))
    (li_InvalidDeeds : K.lookup I_InvalidDeeds = some ⟨oci_InvalidDeeds, odi_InvalidDeeds, .func (PySem.W.fnOf "__init__" "InvalidDeeds.__init__" (defArgs si_InvalidDeeds) (defBody si_InvalidDeeds) (defScope si_InvalidDeeds) .none kVi_InvalidDeeds dci_InvalidDeeds pmi_InvalidDeeds ani_InvalidDeeds cdi_InvalidDeeds cti_InvalidDeeds), sli_InvalidDeeds⟩)
    (ci_InvalidDeeds : PySem.W.codeIn K cdi_InvalidDeeds "InvalidDeeds.__init__" = true)
    (ki_InvalidDeeds : PySem.W.keepIn K (.ref I_InvalidDeeds) = true)
    (hb_InvalidDeeds : errB K A_InvalidDeeds [.type "ValueError", .type "Exception", .type "BaseException", .type "object"] "ValueError.__new__" [(Str.ofString "index")] = true)
    (ii_InvalidText : PySem.W.findIn K (.ref A_InvalidText) "__init__" = some (some (.ref I_InvalidText)))
    (ti_InvalidText : PySem.W.typeIn K (.ref I_InvalidText) = some (.type "function"))
    (li_InvalidText : K.lookup I_InvalidText = some ⟨oci_InvalidText, odi_InvalidText, .func (PySem.W.fnOf "__init__" "InvalidText.__init__" (defArgs si_InvalidText) (defBody si_InvalidText) (defScope si_InvalidText) .none kVi_InvalidText dci_InvalidText pmi_InvalidText ani_InvalidText cdi_InvalidText cti_InvalidText), sli_InvalidText⟩)
    (ci_InvalidText : PySem.W.codeIn K cdi_InvalidText "InvalidText.__init__" = true)
    (ki_InvalidText : PySem.W.keepIn K (.ref I_InvalidText) = true)
    (hb_InvalidText : errB K A_InvalidText [.type "ValueError", .type "Exception", .type "BaseException", .type "object"] "ValueError.__new__" [(Str.ofString "text")] = true)
    (ii_InvalidCommand : PySem.W.findIn K (.ref A_InvalidCommand) "__init__" = some (some (.ref I_InvalidCommand)))
    (ti_InvalidCommand : PySem.W.typeIn K (.ref I_InvalidCommand) = some (.type "function"))
    (li_InvalidCommand : K.lookup I_InvalidCommand = some ⟨oci_InvalidCommand, odi_InvalidCommand, .func (PySem.W.fnOf "__init__" "InvalidCommand.__init__" (defArgs si_InvalidCommand) (defBody si_InvalidCommand) (defScope si_InvalidCommand) .none kVi_InvalidCommand dci_InvalidCommand pmi_InvalidCommand ani_InvalidCommand cdi_InvalidCommand cti_InvalidCommand), sli_InvalidCommand⟩)
    (ci_InvalidCommand : PySem.W.codeIn K cdi_InvalidCommand "InvalidCommand.__init__" = true)
    (ki_InvalidCommand : PySem.W.keepIn K (.ref I_InvalidCommand) = true)
    (hb_InvalidCommand : errB K A_InvalidCommand [.type "ValueError", .type "Exception", .type "BaseException", .type "object"] "ValueError.__new__" [(Str.ofString "command")] = true)
    (ii_NotAPlan : PySem.W.findIn K (.ref A_NotAPlan) "__init__" = some (some (.ref I_NotAPlan)))
    (ti_NotAPlan : PySem.W.typeIn K (.ref I_NotAPlan) = some (.type "function"))
    (li_NotAPlan : K.lookup I_NotAPlan = some ⟨oci_NotAPlan, odi_NotAPlan, .func (PySem.W.fnOf "__init__" "NotAPlan.__init__" (defArgs si_NotAPlan) (defBody si_NotAPlan) (defScope si_NotAPlan) .none kVi_NotAPlan dci_NotAPlan pmi_NotAPlan ani_NotAPlan cdi_NotAPlan cti_NotAPlan), sli_NotAPlan⟩)
    (ci_NotAPlan : PySem.W.codeIn K cdi_NotAPlan "NotAPlan.__init__" = true)
    (ki_NotAPlan : PySem.W.keepIn K (.ref I_NotAPlan) = true)
    (hb_NotAPlan : errB K A_NotAPlan [.type "ValueError", .type "Exception", .type "BaseException", .type "object"] "ValueError.__new__" [(Str.ofString "value")] = true)
    (ii_NotClaims : PySem.W.findIn K (.ref A_NotClaims) "__init__" = some (some (.ref I_NotClaims)))
    (ti_NotClaims : PySem.W.typeIn K (.ref I_NotClaims) = some (.type "function"))
    (li_NotClaims : K.lookup I_NotClaims = some ⟨oci_NotClaims, odi_NotClaims, .func (PySem.W.fnOf "__init__" "NotClaims.__init__" (defArgs si_NotClaims) (defBody si_NotClaims) (defScope si_NotClaims) .none kVi_NotClaims dci_NotClaims pmi_NotClaims ani_NotClaims cdi_NotClaims cti_NotClaims), sli_NotClaims⟩)
    (ci_NotClaims : PySem.W.codeIn K cdi_NotClaims "NotClaims.__init__" = true)
    (ki_NotClaims : PySem.W.keepIn K (.ref I_NotClaims) = true)
    (hb_NotClaims : errB K A_NotClaims [.type "ValueError", .type "Exception", .type "BaseException", .type "object"] "ValueError.__new__" [(Str.ofString "value")] = true)
    (ii_NotFlipped : PySem.W.findIn K (.ref A_NotFlipped) "__init__" = some (some (.ref I_NotFlipped)))
    (ti_NotFlipped : PySem.W.typeIn K (.ref I_NotFlipped) = some (.type "function"))
    (li_NotFlipped : K.lookup I_NotFlipped = some ⟨oci_NotFlipped, odi_NotFlipped, .func (PySem.W.fnOf "__init__" "NotFlipped.__init__" (defArgs si_NotFlipped) (defBody si_NotFlipped) (defScope si_NotFlipped) .none kVi_NotFlipped dci_NotFlipped pmi_NotFlipped ani_NotFlipped cdi_NotFlipped cti_NotFlipped), sli_NotFlipped⟩)
    (ci_NotFlipped : PySem.W.codeIn K cdi_NotFlipped "NotFlipped.__init__" = true)
    (ki_NotFlipped : PySem.W.keepIn K (.ref I_NotFlipped) = true)
    (hb_NotFlipped : errB K A_NotFlipped [.type "ValueError", .type "Exception", .type "BaseException", .type "object"] "ValueError.__new__" [(Str.ofString "found")] = true)
    (ii_NotATable : PySem.W.findIn K (.ref A_NotATable) "__init__" = some (some (.ref I_NotATable)))
    (ti_NotATable : PySem.W.typeIn K (.ref I_NotATable) = some (.type "function"))
    (li_NotATable : K.lookup I_NotATable = some ⟨oci_NotATable, odi_NotATable, .func (PySem.W.fnOf "__init__" "NotATable.__init__" (defArgs si_NotATable) (defBody si_NotATable) (defScope si_NotATable) .none kVi_NotATable dci_NotATable pmi_NotATable ani_NotATable cdi_NotATable cti_NotATable), sli_NotATable⟩)
    (ci_NotATable : PySem.W.codeIn K cdi_NotATable "NotATable.__init__" = true)
    (ki_NotATable : PySem.W.keepIn K (.ref I_NotATable) = true)
    (hb_NotATable : errB K A_NotATable [.type "ValueError", .type "Exception", .type "BaseException", .type "object"] "ValueError.__new__" [(Str.ofString "value")] = true)
    (ii_NotASample : PySem.W.findIn K (.ref A_NotASample) "__init__" = some (some (.ref I_NotASample)))
    (ti_NotASample : PySem.W.typeIn K (.ref I_NotASample) = some (.type "function"))
    (li_NotASample : K.lookup I_NotASample = some ⟨oci_NotASample, odi_NotASample, .func (PySem.W.fnOf "__init__" "NotASample.__init__" (defArgs si_NotASample) (defBody si_NotASample) (defScope si_NotASample) .none kVi_NotASample dci_NotASample pmi_NotASample ani_NotASample cdi_NotASample cti_NotASample), sli_NotASample⟩)
    (ci_NotASample : PySem.W.codeIn K cdi_NotASample "NotASample.__init__" = true)
    (ki_NotASample : PySem.W.keepIn K (.ref I_NotASample) = true)
    (hb_NotASample : errB K A_NotASample [.type "ValueError", .type "Exception", .type "BaseException", .type "object"] "ValueError.__new__" [(Str.ofString "value")] = true)
    (ii_UnknownName : PySem.W.findIn K (.ref A_UnknownName) "__init__" = some (some (.ref I_UnknownName)))
    (ti_UnknownName : PySem.W.typeIn K (.ref I_UnknownName) = some (.type "function"))
    (li_UnknownName : K.lookup I_UnknownName = some ⟨oci_UnknownName, odi_UnknownName, .func (PySem.W.fnOf "__init__" "UnknownName.__init__" (defArgs si_UnknownName) (defBody si_UnknownName) (defScope si_UnknownName) .none kVi_UnknownName dci_UnknownName pmi_UnknownName ani_UnknownName cdi_UnknownName cti_UnknownName), sli_UnknownName⟩)
    (ci_UnknownName : PySem.W.codeIn K cdi_UnknownName "UnknownName.__init__" = true)
    (ki_UnknownName : PySem.W.keepIn K (.ref I_UnknownName) = true)
    (hb_UnknownName : errB K A_UnknownName [.type "LookupError", .type "Exception", .type "BaseException", .type "object"] "LookupError.__new__" [(Str.ofString "name")] = true)
    (ii_UnknownRow : PySem.W.findIn K (.ref A_UnknownRow) "__init__" = some (some (.ref I_UnknownRow)))
    (ti_UnknownRow : PySem.W.typeIn K (.ref I_UnknownRow) = some (.type "function"))
    (li_UnknownRow : K.lookup I_UnknownRow = some ⟨oci_UnknownRow, odi_UnknownRow, .func (PySem.W.fnOf "__init__" "UnknownRow.__init__" (defArgs si_UnknownRow) (defBody si_UnknownRow) (defScope si_UnknownRow) .none kVi_UnknownRow dci_UnknownRow pmi_UnknownRow ani_UnknownRow cdi_UnknownRow cti_UnknownRow), sli_UnknownRow⟩)
    (ci_UnknownRow : PySem.W.codeIn K cdi_UnknownRow "UnknownRow.__init__" = true)
    (ki_UnknownRow : PySem.W.keepIn K (.ref I_UnknownRow) = true)
    (hb_UnknownRow : errB K A_UnknownRow [.type "LookupError", .type "Exception", .type "BaseException", .type "object"] "LookupError.__new__" [(Str.ofString "key")] = true)
    (ii_KnownRow : PySem.W.findIn K (.ref A_KnownRow) "__init__" = some (some (.ref I_KnownRow)))
    (ti_KnownRow : PySem.W.typeIn K (.ref I_KnownRow) = some (.type "function"))
    (li_KnownRow : K.lookup I_KnownRow = some ⟨oci_KnownRow, odi_KnownRow, .func (PySem.W.fnOf "__init__" "KnownRow.__init__" (defArgs si_KnownRow) (defBody si_KnownRow) (defScope si_KnownRow) .none kVi_KnownRow dci_KnownRow pmi_KnownRow ani_KnownRow cdi_KnownRow cti_KnownRow), sli_KnownRow⟩)
    (ci_KnownRow : PySem.W.codeIn K cdi_KnownRow "KnownRow.__init__" = true)
    (ki_KnownRow : PySem.W.keepIn K (.ref I_KnownRow) = true)
    (hb_KnownRow : errB K A_KnownRow [.type "LookupError", .type "Exception", .type "BaseException", .type "object"] "LookupError.__new__" [(Str.ofString "key")] = true)
    (ii_SameRank : PySem.W.findIn K (.ref A_SameRank) "__init__" = some (some (.ref I_SameRank)))
    (ti_SameRank : PySem.W.typeIn K (.ref I_SameRank) = some (.type "function"))
    (li_SameRank : K.lookup I_SameRank = some ⟨oci_SameRank, odi_SameRank, .func (PySem.W.fnOf "__init__" "SameRank.__init__" (defArgs si_SameRank) (defBody si_SameRank) (defScope si_SameRank) .none kVi_SameRank dci_SameRank pmi_SameRank ani_SameRank cdi_SameRank cti_SameRank), sli_SameRank⟩)
    (ci_SameRank : PySem.W.codeIn K cdi_SameRank "SameRank.__init__" = true)
    (ki_SameRank : PySem.W.keepIn K (.ref I_SameRank) = true)
    (hb_SameRank : errB K A_SameRank [.type "LookupError", .type "Exception", .type "BaseException", .type "object"] "LookupError.__new__" [(Str.ofString "rank")] = true)
    (ii_Contradiction : PySem.W.findIn K (.ref A_Contradiction) "__init__" = some (some (.ref I_Contradiction)))
    (ti_Contradiction : PySem.W.typeIn K (.ref I_Contradiction) = some (.type "function"))
    (li_Contradiction : K.lookup I_Contradiction = some ⟨oci_Contradiction, odi_Contradiction, .func (PySem.W.fnOf "__init__" "Contradiction.__init__" (defArgs si_Contradiction) (defBody si_Contradiction) (defScope si_Contradiction) .none kVi_Contradiction dci_Contradiction pmi_Contradiction ani_Contradiction cdi_Contradiction cti_Contradiction), sli_Contradiction⟩)
    (ci_Contradiction : PySem.W.codeIn K cdi_Contradiction "Contradiction.__init__" = true)
    (ki_Contradiction : PySem.W.keepIn K (.ref I_Contradiction) = true)
    (hb_Contradiction : errB K A_Contradiction [.type "LookupError", .type "Exception", .type "BaseException", .type "object"] "LookupError.__new__" [(Str.ofString "key")] = true)
    (ii_NotHeld : PySem.W.findIn K (.ref A_NotHeld) "__init__" = some (some (.ref I_NotHeld)))
    (ti_NotHeld : PySem.W.typeIn K (.ref I_NotHeld) = some (.type "function"))
    (li_NotHeld : K.lookup I_NotHeld = some ⟨oci_NotHeld, odi_NotHeld, .func (PySem.W.fnOf "__init__" "NotHeld.__init__" (defArgs si_NotHeld) (defBody si_NotHeld) (defScope si_NotHeld) .none kVi_NotHeld dci_NotHeld pmi_NotHeld ani_NotHeld cdi_NotHeld cti_NotHeld), sli_NotHeld⟩)
    (ci_NotHeld : PySem.W.codeIn K cdi_NotHeld "NotHeld.__init__" = true)
    (ki_NotHeld : PySem.W.keepIn K (.ref I_NotHeld) = true)
    (hb_NotHeld : errB K A_NotHeld [.type "LookupError", .type "Exception", .type "BaseException", .type "object"] "LookupError.__new__" [(Str.ofString "found")] = true)
    (ii_TooFew : PySem.W.findIn K (.ref A_TooFew) "__init__" = some (some (.ref I_TooFew)))
    (ti_TooFew : PySem.W.typeIn K (.ref I_TooFew) = some (.type "function"))
    (li_TooFew : K.lookup I_TooFew = some ⟨oci_TooFew, odi_TooFew, .func (PySem.W.fnOf "__init__" "TooFew.__init__" (defArgs si_TooFew) (defBody si_TooFew) (defScope si_TooFew) .none kVi_TooFew dci_TooFew pmi_TooFew ani_TooFew cdi_TooFew cti_TooFew), sli_TooFew⟩)
    (ci_TooFew : PySem.W.codeIn K cdi_TooFew "TooFew.__init__" = true)
    (ki_TooFew : PySem.W.keepIn K (.ref I_TooFew) = true)
    (hb_TooFew : errB K A_TooFew [.type "ArithmeticError", .type "Exception", .type "BaseException", .type "object"] "ArithmeticError.__new__" [(Str.ofString "looked")] = true)
    (ii_TooFine : PySem.W.findIn K (.ref A_TooFine) "__init__" = some (some (.ref I_TooFine)))
    (ti_TooFine : PySem.W.typeIn K (.ref I_TooFine) = some (.type "function"))
    (li_TooFine : K.lookup I_TooFine = some ⟨oci_TooFine, odi_TooFine, .func (PySem.W.fnOf "__init__" "TooFine.__init__" (defArgs si_TooFine) (defBody si_TooFine) (defScope si_TooFine) .none kVi_TooFine dci_TooFine pmi_TooFine ani_TooFine cdi_TooFine cti_TooFine), sli_TooFine⟩)
    (ci_TooFine : PySem.W.codeIn K cdi_TooFine "TooFine.__init__" = true)
    (ki_TooFine : PySem.W.keepIn K (.ref I_TooFine) = true)
    (hb_TooFine : errB K A_TooFine [.type "ArithmeticError", .type "Exception", .type "BaseException", .type "object"] "ArithmeticError.__new__" [(Str.ofString "found")] = true)
    (hq_Busy : PySem.W.excIn K A_Busy [.type "LookupError", .type "Exception", .type "BaseException", .type "object"] "LookupError.__new__" = true)
    (hk_Busy : PySem.W.keepIn K (.ref A_Busy) = true)
    (hq_NothingToUndo : PySem.W.excIn K A_NothingToUndo [.type "LookupError", .type "Exception", .type "BaseException", .type "object"] "LookupError.__new__" = true)
    (hk_NothingToUndo : PySem.W.keepIn K (.ref A_NothingToUndo) = true)
    (kall_ : kAll K [((Str.ofString "InputError"), A_InputError), ((Str.ofString "InvalidNumber"), A_InvalidNumber), ((Str.ofString "InvalidRatio"), A_InvalidRatio), ((Str.ofString "InvalidShare"), A_InvalidShare), ((Str.ofString "InvalidName"), A_InvalidName), ((Str.ofString "InvalidRows"), A_InvalidRows), ((Str.ofString "NotRising"), A_NotRising), ((Str.ofString "InvalidLimits"), A_InvalidLimits), ((Str.ofString "InvalidLooks"), A_InvalidLooks), ((Str.ofString "InvalidMarks"), A_InvalidMarks), ((Str.ofString "InvalidState"), A_InvalidState), ((Str.ofString "InvalidLines"), A_InvalidLines), ((Str.ofString "InvalidSize"), A_InvalidSize), ((Str.ofString "InvalidMarked"), A_InvalidMarked), ((Str.ofString "InvalidSeries"), A_InvalidSeries), ((Str.ofString "InvalidModulus"), A_InvalidModulus), ((Str.ofString "InvalidKeys"), A_InvalidKeys), ((Str.ofString "InvalidLayers"), A_InvalidLayers), ((Str.ofString "InvalidTables"), A_InvalidTables), ((Str.ofString "InvalidDeeds"), A_InvalidDeeds), ((Str.ofString "InvalidText"), A_InvalidText), ((Str.ofString "InvalidCommand"), A_InvalidCommand), ((Str.ofString "NotAPlan"), A_NotAPlan), ((Str.ofString "NotClaims"), A_NotClaims), ((Str.ofString "NotFlipped"), A_NotFlipped), ((Str.ofString "NotATable"), A_NotATable), ((Str.ofString "NotASample"), A_NotASample), ((Str.ofString "StateError"), A_StateError), ((Str.ofString "UnknownName"), A_UnknownName), ((Str.ofString "UnknownRow"), A_UnknownRow), ((Str.ofString "KnownRow"), A_KnownRow), ((Str.ofString "SameRank"), A_SameRank), ((Str.ofString "Contradiction"), A_Contradiction), ((Str.ofString "NotHeld"), A_NotHeld), ((Str.ofString "Busy"), A_Busy), ((Str.ofString "NothingToUndo"), A_NothingToUndo), ((Str.ofString "LimitError"), A_LimitError), ((Str.ofString "TooFew"), A_TooFew), ((Str.ofString "TooFine"), A_TooFine)] colsH TBH = true) :
    ∃ (fd : FuncData) (mk : List (Str × Addr × Addr)) (sp : Sp), GX.mkIn K q mk ∧ (∀ (s : Shared) (u : Value), BindsTo s fd ⟨[u], []⟩ [("_law_script", u)]) ∧
      (∀ (H : Hp) (a : Addr) (ns : List Int), ns.length ≤ 63 → (∀ r ∈ mk, H r.2.2 = some (.tbl #[])) → (∀ b, b ∉ mk.map (·.2.2) → H b = none ∨ ∃ o xs, H b = some (.frz o (.lst xs))) → SqL K H a (ns.map V.int) → sp [.ref a] H (fun v _ => v = .bl true) fun _ _ _ => False) ∧
      ∀ base : Heap, K.In base → base.Ns mainGlobals mg → (∀ r ∈ mk, LamX.TabB base mg r.2.1 r.2.2) → GX.SysB base → FnG l.prog w K mg base CX0 6 fa fd ["_law_script"] sp := by
  have e := hfa.symm.trans (PySem.W.mg_of X G a_law)
  cases e
  letI : TabL := MX.tabOf []
  let T : Txt K mg := {
    t_BOTTOM := t_BOTTOM
    g_BOTTOM := PySem.W.mg_of X G u_BOTTOM
    t_CLASSES := t_CLASSES
    g_CLASSES := PySem.W.mg_of X G u_CLASSES
    t_FROM := t_FROM
    g_FROM := PySem.W.mg_of X G u_FROM
    t_LONGEST := t_LONGEST
    g_LONGEST := PySem.W.mg_of X G u_LONGEST
    t_MODULUS := t_MODULUS
    g_MODULUS := PySem.W.mg_of X G u_MODULUS
    t_OFFSET := t_OFFSET
    g_OFFSET := PySem.W.mg_of X G u_OFFSET
    t_SIZE := t_SIZE
    g_SIZE := PySem.W.mg_of X G u_SIZE
    c_InputError := A_InputError
    g_InputError := PySem.W.mg_of X G u_InputError
    n_InputError := nm_of u_InputError
    c_InvalidNumber := A_InvalidNumber
    g_InvalidNumber := PySem.W.mg_of X G u_InvalidNumber
    n_InvalidNumber := nm_of u_InvalidNumber
    c_InvalidRatio := A_InvalidRatio
    g_InvalidRatio := PySem.W.mg_of X G u_InvalidRatio
    n_InvalidRatio := nm_of u_InvalidRatio
    c_InvalidShare := A_InvalidShare
    g_InvalidShare := PySem.W.mg_of X G u_InvalidShare
    n_InvalidShare := nm_of u_InvalidShare
    c_InvalidName := A_InvalidName
    g_InvalidName := PySem.W.mg_of X G u_InvalidName
    n_InvalidName := nm_of u_InvalidName
    c_InvalidRows := A_InvalidRows
    g_InvalidRows := PySem.W.mg_of X G u_InvalidRows
    n_InvalidRows := nm_of u_InvalidRows
    c_NotRising := A_NotRising
    g_NotRising := PySem.W.mg_of X G u_NotRising
    n_NotRising := nm_of u_NotRising
    c_InvalidLimits := A_InvalidLimits
    g_InvalidLimits := PySem.W.mg_of X G u_InvalidLimits
    n_InvalidLimits := nm_of u_InvalidLimits
    c_InvalidLooks := A_InvalidLooks
    g_InvalidLooks := PySem.W.mg_of X G u_InvalidLooks
    n_InvalidLooks := nm_of u_InvalidLooks
    c_InvalidMarks := A_InvalidMarks
    g_InvalidMarks := PySem.W.mg_of X G u_InvalidMarks
    n_InvalidMarks := nm_of u_InvalidMarks
    c_InvalidState := A_InvalidState
    g_InvalidState := PySem.W.mg_of X G u_InvalidState
    n_InvalidState := nm_of u_InvalidState
    c_InvalidLines := A_InvalidLines
    g_InvalidLines := PySem.W.mg_of X G u_InvalidLines
    n_InvalidLines := nm_of u_InvalidLines
    c_InvalidSize := A_InvalidSize
    g_InvalidSize := PySem.W.mg_of X G u_InvalidSize
    n_InvalidSize := nm_of u_InvalidSize
    c_InvalidMarked := A_InvalidMarked
    g_InvalidMarked := PySem.W.mg_of X G u_InvalidMarked
    n_InvalidMarked := nm_of u_InvalidMarked
    c_InvalidSeries := A_InvalidSeries
    g_InvalidSeries := PySem.W.mg_of X G u_InvalidSeries
    n_InvalidSeries := nm_of u_InvalidSeries
    c_InvalidModulus := A_InvalidModulus
    g_InvalidModulus := PySem.W.mg_of X G u_InvalidModulus
    n_InvalidModulus := nm_of u_InvalidModulus
    c_InvalidKeys := A_InvalidKeys
    g_InvalidKeys := PySem.W.mg_of X G u_InvalidKeys
    n_InvalidKeys := nm_of u_InvalidKeys
    c_InvalidLayers := A_InvalidLayers
    g_InvalidLayers := PySem.W.mg_of X G u_InvalidLayers
    n_InvalidLayers := nm_of u_InvalidLayers
    c_InvalidTables := A_InvalidTables
    g_InvalidTables := PySem.W.mg_of X G u_InvalidTables
    n_InvalidTables := nm_of u_InvalidTables
    c_InvalidDeeds := A_InvalidDeeds
    g_InvalidDeeds := PySem.W.mg_of X G u_InvalidDeeds
    n_InvalidDeeds := nm_of u_InvalidDeeds
    c_InvalidText := A_InvalidText
    g_InvalidText := PySem.W.mg_of X G u_InvalidText
    n_InvalidText := nm_of u_InvalidText
    c_InvalidCommand := A_InvalidCommand
    g_InvalidCommand := PySem.W.mg_of X G u_InvalidCommand
    n_InvalidCommand := nm_of u_InvalidCommand
    c_NotAPlan := A_NotAPlan
    g_NotAPlan := PySem.W.mg_of X G u_NotAPlan
    n_NotAPlan := nm_of u_NotAPlan
    c_NotClaims := A_NotClaims
    g_NotClaims := PySem.W.mg_of X G u_NotClaims
    n_NotClaims := nm_of u_NotClaims
    c_NotFlipped := A_NotFlipped
    g_NotFlipped := PySem.W.mg_of X G u_NotFlipped
    n_NotFlipped := nm_of u_NotFlipped
    c_NotATable := A_NotATable
    g_NotATable := PySem.W.mg_of X G u_NotATable
    n_NotATable := nm_of u_NotATable
    c_NotASample := A_NotASample
    g_NotASample := PySem.W.mg_of X G u_NotASample
    n_NotASample := nm_of u_NotASample
    c_StateError := A_StateError
    g_StateError := PySem.W.mg_of X G u_StateError
    n_StateError := nm_of u_StateError
    c_UnknownName := A_UnknownName
    g_UnknownName := PySem.W.mg_of X G u_UnknownName
    n_UnknownName := nm_of u_UnknownName
    c_UnknownRow := A_UnknownRow
    g_UnknownRow := PySem.W.mg_of X G u_UnknownRow
    n_UnknownRow := nm_of u_UnknownRow
    c_KnownRow := A_KnownRow
    g_KnownRow := PySem.W.mg_of X G u_KnownRow
    n_KnownRow := nm_of u_KnownRow
    c_SameRank := A_SameRank
    g_SameRank := PySem.W.mg_of X G u_SameRank
    n_SameRank := nm_of u_SameRank
    c_Contradiction := A_Contradiction
    g_Contradiction := PySem.W.mg_of X G u_Contradiction
    n_Contradiction := nm_of u_Contradiction
    c_NotHeld := A_NotHeld
    g_NotHeld := PySem.W.mg_of X G u_NotHeld
    n_NotHeld := nm_of u_NotHeld
    c_Busy := A_Busy
    g_Busy := PySem.W.mg_of X G u_Busy
    n_Busy := nm_of u_Busy
    c_NothingToUndo := A_NothingToUndo
    g_NothingToUndo := PySem.W.mg_of X G u_NothingToUndo
    n_NothingToUndo := nm_of u_NothingToUndo
    c_LimitError := A_LimitError
    g_LimitError := PySem.W.mg_of X G u_LimitError
    n_LimitError := nm_of u_LimitError
    c_TooFew := A_TooFew
    g_TooFew := PySem.W.mg_of X G u_TooFew
    n_TooFew := nm_of u_TooFew
    c_TooFine := A_TooFine
    g_TooFine := PySem.W.mg_of X G u_TooFine
    n_TooFine := nm_of u_TooFine
    c_Ratio := A_Ratio
    g_Ratio := PySem.W.mg_of X G u_Ratio
    a_is_integer := f_is_integer
    fd_is_integer := _
    g_is_integer := PySem.W.mg_of X G a_is_integer
    F_is_integer := fun_mk (st := s_is_integer) l_is_integer c_is_integer k_is_integer
    a_Ratio___init__ := f_Ratio___init__
    fd_Ratio___init__ := _
    m_Ratio___init__ := a_Ratio___init__
    fn_Ratio___init__ := fn_Ratio___init__
    F_Ratio___init__ := ⟨⟨_, _, .ref D_Ratio___init__, _, _, _, _, _, _, _, rfl, l_Ratio___init__, c_Ratio___init__, .inr ⟨by simp, D_Ratio___init__, _, [.int 1 tD_Ratio___init__], nD_Ratio___init__, rfl, lD_Ratio___init__, rfl, .cons ⟨tD_Ratio___init__, rfl⟩ .nil⟩, .inl rfl⟩, k_Ratio___init__⟩
    a_Ratio___repr__ := f_Ratio___repr__
    fd_Ratio___repr__ := _
    m_Ratio___repr__ := a_Ratio___repr__
    fn_Ratio___repr__ := fn_Ratio___repr__
    F_Ratio___repr__ := fun_mk (st := s_Ratio___repr__) l_Ratio___repr__ c_Ratio___repr__ k_Ratio___repr__
    a_q_purse := f_q_purse
    fd_q_purse := _
    g_q_purse := PySem.W.mg_of X G a_q_purse
    F_q_purse := fun_mk (st := s_q_purse) l_q_purse c_q_purse k_q_purse
    a_q_draw := f_q_draw
    fd_q_draw := _
    g_q_draw := PySem.W.mg_of X G a_q_draw
    F_q_draw := fun_mk (st := s_q_draw) l_q_draw c_q_draw k_q_draw
    a_q_first_words := f_q_first_words
    fd_q_first_words := _
    g_q_first_words := PySem.W.mg_of X G a_q_first_words
    F_q_first_words := fun_mk (st := s_q_first_words) l_q_first_words c_q_first_words k_q_first_words
    a_q_words := f_q_words
    fd_q_words := _
    g_q_words := PySem.W.mg_of X G a_q_words
    F_q_words := fun_mk (st := s_q_words) l_q_words c_q_words k_q_words
    a_q_numbers := f_q_numbers
    fd_q_numbers := _
    g_q_numbers := PySem.W.mg_of X G a_q_numbers
    F_q_numbers := fun_mk (st := s_q_numbers) l_q_numbers c_q_numbers k_q_numbers
    a_q_places := f_q_places
    fd_q_places := _
    g_q_places := PySem.W.mg_of X G a_q_places
    F_q_places := fun_mk (st := s_q_places) l_q_places c_q_places k_q_places
    a_q_others := f_q_others
    fd_q_others := _
    g_q_others := PySem.W.mg_of X G a_q_others
    F_q_others := fun_mk (st := s_q_others) l_q_others c_q_others k_q_others
    a_q_states := f_q_states
    fd_q_states := _
    g_q_states := PySem.W.mg_of X G a_q_states
    F_q_states := fun_mk (st := s_q_states) l_q_states c_q_states k_q_states
    a_q_limits := f_q_limits
    fd_q_limits := _
    g_q_limits := PySem.W.mg_of X G a_q_limits
    F_q_limits := fun_mk (st := s_q_limits) l_q_limits c_q_limits k_q_limits
    a_q_all_right := f_q_all_right
    fd_q_all_right := _
    g_q_all_right := PySem.W.mg_of X G a_q_all_right
    F_q_all_right := fun_mk (st := s_q_all_right) l_q_all_right c_q_all_right k_q_all_right
    a_q_right := f_q_right
    fd_q_right := _
    g_q_right := PySem.W.mg_of X G a_q_right
    F_q_right := fun_mk (st := s_q_right) l_q_right c_q_right k_q_right
    a_law := fa
    fd_law := _
    F_law := fun_mk (st := s_law) l_law c_law k_law
    z_isinstance := PySem.W.mg_none_of X G y_isinstance
    z_int := PySem.W.mg_none_of X G y_int
    z_bool := PySem.W.mg_none_of X G y_bool
    z_len := PySem.W.mg_none_of X G y_len
    z_abs := PySem.W.mg_none_of X G y_abs
    z_divmod := PySem.W.mg_none_of X G y_divmod
    z_ValueError := PySem.W.mg_none_of X G y_ValueError
    z_LookupError := PySem.W.mg_none_of X G y_LookupError
    z_ArithmeticError := PySem.W.mg_none_of X G y_ArithmeticError
    z_repr := PySem.W.mg_none_of X G y_repr
    z_range := PySem.W.mg_none_of X G y_range
    z_max := PySem.W.mg_none_of X G y_max
    z_min := PySem.W.mg_none_of X G y_min
    g_gcd := PySem.W.mg_of X G u_gcd
    cr_Ratio := ⟨rd_Ratio, sg_Ratio⟩
    kb_Ratio := by rw [nm_of u_Ratio]; exact (all_cons kb_NoneType_Ratio (all_cons kb_bool_Ratio (all_cons kb_int_Ratio (all_cons kb_str_Ratio (all_cons kb_tuple_Ratio (all_cons kb_list_Ratio (all_cons kb_dict_Ratio all_nil)))))))
    cl_Ratio := ⟨pg_Ratio, hd_Ratio, po_Ratio, sa_Ratio⟩
    na_Ratio_top := nftop_Ratio
    na_Ratio_bottom := nfbottom_Ratio
    na_Ratio_floor := nffloor_Ratio
    k_Ratio := ⟨nm_of u_Ratio, (all_cons ki_NoneType_Ratio (all_cons ki_bool_Ratio (all_cons ki_int_Ratio (all_cons ki_str_Ratio (all_cons ki_tuple_Ratio (all_cons ki_list_Ratio (all_cons ki_dict_Ratio all_nil))))))), (all_cons nf_NoneType_Ratio (all_cons nf_bool_Ratio (all_cons nf_int_Ratio (all_cons nf_str_Ratio (all_cons nf_tuple_Ratio (all_cons nf_list_Ratio (all_cons nf_dict_Ratio all_nil))))))), (all_cons (os_mk (nm_of u_Ratio) ⟨⟨pg_Ratio, hd_Ratio, po_Ratio, sa_Ratio⟩, ha_Ratio, hn_, ht_, hm_Ratio⟩ (by rw [ko_Ratio_Ratio]; rfl) no_Ratio_Ratio) all_nil)⟩
    mk_Ratio := ⟨mk_Ratio, a_Ratio___init__, fn_Ratio___init__, kp_Ratio⟩
    i_InvalidNumber := I_InvalidNumber
    fi_InvalidNumber := _
    he_InvalidNumber := errB_ok (nm_of u_InvalidNumber) PySem.F.store_ValueError PySem.F.excBase_ValueError hb_InvalidNumber
    hi_InvalidNumber := ii_InvalidNumber
    ht_InvalidNumber := ti_InvalidNumber
    Fi_InvalidNumber := fun_mk (st := si_InvalidNumber) li_InvalidNumber ci_InvalidNumber ki_InvalidNumber
    i_InvalidRatio := I_InvalidRatio
    fi_InvalidRatio := _
    he_InvalidRatio := errB_ok (nm_of u_InvalidRatio) PySem.F.store_ValueError PySem.F.excBase_ValueError hb_InvalidRatio
    hi_InvalidRatio := ii_InvalidRatio
    ht_InvalidRatio := ti_InvalidRatio
    Fi_InvalidRatio := fun_mk (st := si_InvalidRatio) li_InvalidRatio ci_InvalidRatio ki_InvalidRatio
    i_InvalidShare := I_InvalidShare
    fi_InvalidShare := _
    he_InvalidShare := errB_ok (nm_of u_InvalidShare) PySem.F.store_ValueError PySem.F.excBase_ValueError hb_InvalidShare
    hi_InvalidShare := ii_InvalidShare
    ht_InvalidShare := ti_InvalidShare
    Fi_InvalidShare := fun_mk (st := si_InvalidShare) li_InvalidShare ci_InvalidShare ki_InvalidShare
    i_InvalidName := I_InvalidName
    fi_InvalidName := _
    he_InvalidName := errB_ok (nm_of u_InvalidName) PySem.F.store_ValueError PySem.F.excBase_ValueError hb_InvalidName
    hi_InvalidName := ii_InvalidName
    ht_InvalidName := ti_InvalidName
    Fi_InvalidName := fun_mk (st := si_InvalidName) li_InvalidName ci_InvalidName ki_InvalidName
    i_InvalidRows := I_InvalidRows
    fi_InvalidRows := _
    he_InvalidRows := errB_ok (nm_of u_InvalidRows) PySem.F.store_ValueError PySem.F.excBase_ValueError hb_InvalidRows
    hi_InvalidRows := ii_InvalidRows
    ht_InvalidRows := ti_InvalidRows
    Fi_InvalidRows := fun_mk (st := si_InvalidRows) li_InvalidRows ci_InvalidRows ki_InvalidRows
    i_NotRising := I_NotRising
    fi_NotRising := _
    he_NotRising := errB_ok (nm_of u_NotRising) PySem.F.store_ValueError PySem.F.excBase_ValueError hb_NotRising
    hi_NotRising := ii_NotRising
    ht_NotRising := ti_NotRising
    Fi_NotRising := fun_mk (st := si_NotRising) li_NotRising ci_NotRising ki_NotRising
    i_InvalidLimits := I_InvalidLimits
    fi_InvalidLimits := _
    he_InvalidLimits := errB_ok (nm_of u_InvalidLimits) PySem.F.store_ValueError PySem.F.excBase_ValueError hb_InvalidLimits
    hi_InvalidLimits := ii_InvalidLimits
    ht_InvalidLimits := ti_InvalidLimits
    Fi_InvalidLimits := fun_mk (st := si_InvalidLimits) li_InvalidLimits ci_InvalidLimits ki_InvalidLimits
    i_InvalidLooks := I_InvalidLooks
    fi_InvalidLooks := _
    he_InvalidLooks := errB_ok (nm_of u_InvalidLooks) PySem.F.store_ValueError PySem.F.excBase_ValueError hb_InvalidLooks
    hi_InvalidLooks := ii_InvalidLooks
    ht_InvalidLooks := ti_InvalidLooks
    Fi_InvalidLooks := fun_mk (st := si_InvalidLooks) li_InvalidLooks ci_InvalidLooks ki_InvalidLooks
    i_InvalidMarks := I_InvalidMarks
    fi_InvalidMarks := _
    he_InvalidMarks := errB_ok (nm_of u_InvalidMarks) PySem.F.store_ValueError PySem.F.excBase_ValueError hb_InvalidMarks
    hi_InvalidMarks := ii_InvalidMarks
    ht_InvalidMarks := ti_InvalidMarks
    Fi_InvalidMarks := fun_mk (st := si_InvalidMarks) li_InvalidMarks ci_InvalidMarks ki_InvalidMarks
    i_InvalidState := I_InvalidState
    fi_InvalidState := _
    he_InvalidState := errB_ok (nm_of u_InvalidState) PySem.F.store_ValueError PySem.F.excBase_ValueError hb_InvalidState
    hi_InvalidState := ii_InvalidState
    ht_InvalidState := ti_InvalidState
    Fi_InvalidState := fun_mk (st := si_InvalidState) li_InvalidState ci_InvalidState ki_InvalidState
    i_InvalidLines := I_InvalidLines
    fi_InvalidLines := _
    he_InvalidLines := errB_ok (nm_of u_InvalidLines) PySem.F.store_ValueError PySem.F.excBase_ValueError hb_InvalidLines
    hi_InvalidLines := ii_InvalidLines
    ht_InvalidLines := ti_InvalidLines
    Fi_InvalidLines := fun_mk (st := si_InvalidLines) li_InvalidLines ci_InvalidLines ki_InvalidLines
    i_InvalidSize := I_InvalidSize
    fi_InvalidSize := _
    he_InvalidSize := errB_ok (nm_of u_InvalidSize) PySem.F.store_ValueError PySem.F.excBase_ValueError hb_InvalidSize
    hi_InvalidSize := ii_InvalidSize
    ht_InvalidSize := ti_InvalidSize
    Fi_InvalidSize := fun_mk (st := si_InvalidSize) li_InvalidSize ci_InvalidSize ki_InvalidSize
    i_InvalidMarked := I_InvalidMarked
    fi_InvalidMarked := _
    he_InvalidMarked := errB_ok (nm_of u_InvalidMarked) PySem.F.store_ValueError PySem.F.excBase_ValueError hb_InvalidMarked
    hi_InvalidMarked := ii_InvalidMarked
    ht_InvalidMarked := ti_InvalidMarked
    Fi_InvalidMarked := fun_mk (st := si_InvalidMarked) li_InvalidMarked ci_InvalidMarked ki_InvalidMarked
    i_InvalidSeries := I_InvalidSeries
    fi_InvalidSeries := _
    he_InvalidSeries := errB_ok (nm_of u_InvalidSeries) PySem.F.store_ValueError PySem.F.excBase_ValueError hb_InvalidSeries
    hi_InvalidSeries := ii_InvalidSeries
    ht_InvalidSeries := ti_InvalidSeries
    Fi_InvalidSeries := fun_mk (st := si_InvalidSeries) li_InvalidSeries ci_InvalidSeries ki_InvalidSeries
    i_InvalidModulus := I_InvalidModulus
    fi_InvalidModulus := _
    he_InvalidModulus := errB_ok (nm_of u_InvalidModulus) PySem.F.store_ValueError PySem.F.excBase_ValueError hb_InvalidModulus
    hi_InvalidModulus := ii_InvalidModulus
    ht_InvalidModulus := ti_InvalidModulus
    Fi_InvalidModulus := fun_mk (st := si_InvalidModulus) li_InvalidModulus ci_InvalidModulus ki_InvalidModulus
    i_InvalidKeys := I_InvalidKeys
    fi_InvalidKeys := _
    he_InvalidKeys := errB_ok (nm_of u_InvalidKeys) PySem.F.store_ValueError PySem.F.excBase_ValueError hb_InvalidKeys
    hi_InvalidKeys := ii_InvalidKeys
    ht_InvalidKeys := ti_InvalidKeys
    Fi_InvalidKeys := fun_mk (st := si_InvalidKeys) li_InvalidKeys ci_InvalidKeys ki_InvalidKeys
    i_InvalidLayers := I_InvalidLayers
    fi_InvalidLayers := _
    he_InvalidLayers := errB_ok (nm_of u_InvalidLayers) PySem.F.store_ValueError PySem.F.excBase_ValueError hb_InvalidLayers
    hi_InvalidLayers := ii_InvalidLayers
    ht_InvalidLayers := ti_InvalidLayers
    Fi_InvalidLayers := fun_mk (st := si_InvalidLayers) li_InvalidLayers ci_InvalidLayers ki_InvalidLayers
    i_InvalidTables := I_InvalidTables
    fi_InvalidTables := _
    he_InvalidTables := errB_ok (nm_of u_InvalidTables) PySem.F.store_ValueError PySem.F.excBase_ValueError hb_InvalidTables
    hi_InvalidTables := ii_InvalidTables
    ht_InvalidTables := ti_InvalidTables
    Fi_InvalidTables := fun_mk (st := si_InvalidTables) li_InvalidTables ci_InvalidTables ki_InvalidTables
    i_InvalidDeeds := I_InvalidDeeds
    fi_InvalidDeeds := _
    he_InvalidDeeds := errB_ok (nm_of u_InvalidDeeds) PySem.F.store_ValueError PySem.F.excBase_ValueError hb_InvalidDeeds
    hi_InvalidDeeds := ii_InvalidDeeds
    ht_InvalidDeeds := ti_InvalidDeeds
    Fi_InvalidDeeds := fun_mk (st := si_InvalidDeeds) li_InvalidDeeds ci_InvalidDeeds ki_InvalidDeeds
    i_InvalidText := I_InvalidText
    fi_InvalidText := _
    he_InvalidText := errB_ok (nm_of u_InvalidText) PySem.F.store_ValueError PySem.F.excBase_ValueError hb_InvalidText
    hi_InvalidText := ii_InvalidText
    ht_InvalidText := ti_InvalidText
    Fi_InvalidText := fun_mk (st := si_InvalidText) li_InvalidText ci_InvalidText ki_InvalidText
    i_InvalidCommand := I_InvalidCommand
    fi_InvalidCommand := _
    he_InvalidCommand := errB_ok (nm_of u_InvalidCommand) PySem.F.store_ValueError PySem.F.excBase_ValueError hb_InvalidCommand
    hi_InvalidCommand := ii_InvalidCommand
    ht_InvalidCommand := ti_InvalidCommand
    Fi_InvalidCommand := fun_mk (st := si_InvalidCommand) li_InvalidCommand ci_InvalidCommand ki_InvalidCommand
    i_NotAPlan := I_NotAPlan
    fi_NotAPlan := _
    he_NotAPlan := errB_ok (nm_of u_NotAPlan) PySem.F.store_ValueError PySem.F.excBase_ValueError hb_NotAPlan
    hi_NotAPlan := ii_NotAPlan
    ht_NotAPlan := ti_NotAPlan
    Fi_NotAPlan := fun_mk (st := si_NotAPlan) li_NotAPlan ci_NotAPlan ki_NotAPlan
    i_NotClaims := I_NotClaims
    fi_NotClaims := _
    he_NotClaims := errB_ok (nm_of u_NotClaims) PySem.F.store_ValueError PySem.F.excBase_ValueError hb_NotClaims
    hi_NotClaims := ii_NotClaims
    ht_NotClaims := ti_NotClaims
    Fi_NotClaims := fun_mk (st := si_NotClaims) li_NotClaims ci_NotClaims ki_NotClaims
    i_NotFlipped := I_NotFlipped
    fi_NotFlipped := _
    he_NotFlipped := errB_ok (nm_of u_NotFlipped) PySem.F.store_ValueError PySem.F.excBase_ValueError hb_NotFlipped
    hi_NotFlipped := ii_NotFlipped
    ht_NotFlipped := ti_NotFlipped
    Fi_NotFlipped := fun_mk (st := si_NotFlipped) li_NotFlipped ci_NotFlipped ki_NotFlipped
    i_NotATable := I_NotATable
    fi_NotATable := _
    he_NotATable := errB_ok (nm_of u_NotATable) PySem.F.store_ValueError PySem.F.excBase_ValueError hb_NotATable
    hi_NotATable := ii_NotATable
    ht_NotATable := ti_NotATable
    Fi_NotATable := fun_mk (st := si_NotATable) li_NotATable ci_NotATable ki_NotATable
    i_NotASample := I_NotASample
    fi_NotASample := _
    he_NotASample := errB_ok (nm_of u_NotASample) PySem.F.store_ValueError PySem.F.excBase_ValueError hb_NotASample
    hi_NotASample := ii_NotASample
    ht_NotASample := ti_NotASample
    Fi_NotASample := fun_mk (st := si_NotASample) li_NotASample ci_NotASample ki_NotASample
    i_UnknownName := I_UnknownName
    fi_UnknownName := _
    he_UnknownName := errB_ok (nm_of u_UnknownName) PySem.F.store_LookupError PySem.F.excBase_LookupError hb_UnknownName
    hi_UnknownName := ii_UnknownName
    ht_UnknownName := ti_UnknownName
    Fi_UnknownName := fun_mk (st := si_UnknownName) li_UnknownName ci_UnknownName ki_UnknownName
    i_UnknownRow := I_UnknownRow
    fi_UnknownRow := _
    he_UnknownRow := errB_ok (nm_of u_UnknownRow) PySem.F.store_LookupError PySem.F.excBase_LookupError hb_UnknownRow
    hi_UnknownRow := ii_UnknownRow
    ht_UnknownRow := ti_UnknownRow
    Fi_UnknownRow := fun_mk (st := si_UnknownRow) li_UnknownRow ci_UnknownRow ki_UnknownRow
    i_KnownRow := I_KnownRow
    fi_KnownRow := _
    he_KnownRow := errB_ok (nm_of u_KnownRow) PySem.F.store_LookupError PySem.F.excBase_LookupError hb_KnownRow
    hi_KnownRow := ii_KnownRow
    ht_KnownRow := ti_KnownRow
    Fi_KnownRow := fun_mk (st := si_KnownRow) li_KnownRow ci_KnownRow ki_KnownRow
    i_SameRank := I_SameRank
    fi_SameRank := _
    he_SameRank := errB_ok (nm_of u_SameRank) PySem.F.store_LookupError PySem.F.excBase_LookupError hb_SameRank
    hi_SameRank := ii_SameRank
    ht_SameRank := ti_SameRank
    Fi_SameRank := fun_mk (st := si_SameRank) li_SameRank ci_SameRank ki_SameRank
    i_Contradiction := I_Contradiction
    fi_Contradiction := _
    he_Contradiction := errB_ok (nm_of u_Contradiction) PySem.F.store_LookupError PySem.F.excBase_LookupError hb_Contradiction
    hi_Contradiction := ii_Contradiction
    ht_Contradiction := ti_Contradiction
    Fi_Contradiction := fun_mk (st := si_Contradiction) li_Contradiction ci_Contradiction ki_Contradiction
    i_NotHeld := I_NotHeld
    fi_NotHeld := _
    he_NotHeld := errB_ok (nm_of u_NotHeld) PySem.F.store_LookupError PySem.F.excBase_LookupError hb_NotHeld
    hi_NotHeld := ii_NotHeld
    ht_NotHeld := ti_NotHeld
    Fi_NotHeld := fun_mk (st := si_NotHeld) li_NotHeld ci_NotHeld ki_NotHeld
    i_TooFew := I_TooFew
    fi_TooFew := _
    he_TooFew := errB_ok (nm_of u_TooFew) PySem.F.store_ArithmeticError PySem.F.excBase_ArithmeticError hb_TooFew
    hi_TooFew := ii_TooFew
    ht_TooFew := ti_TooFew
    Fi_TooFew := fun_mk (st := si_TooFew) li_TooFew ci_TooFew ki_TooFew
    i_TooFine := I_TooFine
    fi_TooFine := _
    he_TooFine := errB_ok (nm_of u_TooFine) PySem.F.store_ArithmeticError PySem.F.excBase_ArithmeticError hb_TooFine
    hi_TooFine := ii_TooFine
    ht_TooFine := ti_TooFine
    Fi_TooFine := fun_mk (st := si_TooFine) li_TooFine ci_TooFine ki_TooFine
    hq_Busy := hq_Busy
    hk_Busy := hk_Busy
    hq_NothingToUndo := hq_NothingToUndo
    hk_NothingToUndo := hk_NothingToUndo
    hIs := kAll_ok (l := [((Str.ofString "InputError"), A_InputError), ((Str.ofString "InvalidNumber"), A_InvalidNumber), ((Str.ofString "InvalidRatio"), A_InvalidRatio), ((Str.ofString "InvalidShare"), A_InvalidShare), ((Str.ofString "InvalidName"), A_InvalidName), ((Str.ofString "InvalidRows"), A_InvalidRows), ((Str.ofString "NotRising"), A_NotRising), ((Str.ofString "InvalidLimits"), A_InvalidLimits), ((Str.ofString "InvalidLooks"), A_InvalidLooks), ((Str.ofString "InvalidMarks"), A_InvalidMarks), ((Str.ofString "InvalidState"), A_InvalidState), ((Str.ofString "InvalidLines"), A_InvalidLines), ((Str.ofString "InvalidSize"), A_InvalidSize), ((Str.ofString "InvalidMarked"), A_InvalidMarked), ((Str.ofString "InvalidSeries"), A_InvalidSeries), ((Str.ofString "InvalidModulus"), A_InvalidModulus), ((Str.ofString "InvalidKeys"), A_InvalidKeys), ((Str.ofString "InvalidLayers"), A_InvalidLayers), ((Str.ofString "InvalidTables"), A_InvalidTables), ((Str.ofString "InvalidDeeds"), A_InvalidDeeds), ((Str.ofString "InvalidText"), A_InvalidText), ((Str.ofString "InvalidCommand"), A_InvalidCommand), ((Str.ofString "NotAPlan"), A_NotAPlan), ((Str.ofString "NotClaims"), A_NotClaims), ((Str.ofString "NotFlipped"), A_NotFlipped), ((Str.ofString "NotATable"), A_NotATable), ((Str.ofString "NotASample"), A_NotASample), ((Str.ofString "StateError"), A_StateError), ((Str.ofString "UnknownName"), A_UnknownName), ((Str.ofString "UnknownRow"), A_UnknownRow), ((Str.ofString "KnownRow"), A_KnownRow), ((Str.ofString "SameRank"), A_SameRank), ((Str.ofString "Contradiction"), A_Contradiction), ((Str.ofString "NotHeld"), A_NotHeld), ((Str.ofString "Busy"), A_Busy), ((Str.ofString "NothingToUndo"), A_NothingToUndo), ((Str.ofString "LimitError"), A_LimitError), ((Str.ofString "TooFew"), A_TooFew), ((Str.ofString "TooFine"), A_TooFine)]) (all_cons (nm_of u_InputError) (all_cons (nm_of u_InvalidNumber) (all_cons (nm_of u_InvalidRatio) (all_cons (nm_of u_InvalidShare) (all_cons (nm_of u_InvalidName) (all_cons (nm_of u_InvalidRows) (all_cons (nm_of u_NotRising) (all_cons (nm_of u_InvalidLimits) (all_cons (nm_of u_InvalidLooks) (all_cons (nm_of u_InvalidMarks) (all_cons (nm_of u_InvalidState) (all_cons (nm_of u_InvalidLines) (all_cons (nm_of u_InvalidSize) (all_cons (nm_of u_InvalidMarked) (all_cons (nm_of u_InvalidSeries) (all_cons (nm_of u_InvalidModulus) (all_cons (nm_of u_InvalidKeys) (all_cons (nm_of u_InvalidLayers) (all_cons (nm_of u_InvalidTables) (all_cons (nm_of u_InvalidDeeds) (all_cons (nm_of u_InvalidText) (all_cons (nm_of u_InvalidCommand) (all_cons (nm_of u_NotAPlan) (all_cons (nm_of u_NotClaims) (all_cons (nm_of u_NotFlipped) (all_cons (nm_of u_NotATable) (all_cons (nm_of u_NotASample) (all_cons (nm_of u_StateError) (all_cons (nm_of u_UnknownName) (all_cons (nm_of u_UnknownRow) (all_cons (nm_of u_KnownRow) (all_cons (nm_of u_SameRank) (all_cons (nm_of u_Contradiction) (all_cons (nm_of u_NotHeld) (all_cons (nm_of u_Busy) (all_cons (nm_of u_NothingToUndo) (all_cons (nm_of u_LimitError) (all_cons (nm_of u_TooFew) (all_cons (nm_of u_TooFine) all_nil))))))))))))))))))))))))))))))))))))))) kall_
  }
  refine ⟨T.fd_law, [], spM K d_law, all_nil, fun s v => .of_eq rfl, fun H a ns hl hT _ hS => law_spT (v_law hl) ?_ hS, fun base _ _ hB hS => ?_⟩
  · exact all_nil
  · exact ok_law T ⟨hS, ⟩
end K24
open PySem PySem.W PyProof.Rows
set_option maxHeartbeats 0 in
theorem PySem.Challenge.cw_drawclaims_k24_constants_and_errors_made_holds : PySem.Challenge.rw_drawclaims_k24_constants_and_errors_made.Holds := by
  w_on
  refine K24e.head ?_
  k_fill
  refine GX.walkS (l := PySem.Challenge.rw_drawclaims_k24_constants_and_errors_made) (n := 63) (k := 6) (x := "_law_script") (CX := fun _ => L2.CX0) rfl (by decide) (by decide +kernel) rfl ⟨rfl, by decide, by decide⟩ (fun w h Y => PySem.W.kIn_of Y) ?F (fun _ _ _ _ _ h => h)
  case F =>
    intro w mg fa h KX G hmg
    refine' K24.all_mk KX G hmg ?u_BOTTOM ?u_CLASSES ?u_FROM ?u_LONGEST ?u_MODULUS ?u_OFFSET ?u_SIZE ?u_InputError ?u_InvalidNumber ?u_InvalidRatio ?u_InvalidShare ?u_InvalidName ?u_InvalidRows ?u_NotRising ?u_InvalidLimits ?u_InvalidLooks ?u_InvalidMarks ?u_InvalidState ?u_InvalidLines ?u_InvalidSize ?u_InvalidMarked ?u_InvalidSeries ?u_InvalidModulus ?u_InvalidKeys ?u_InvalidLayers ?u_InvalidTables ?u_InvalidDeeds ?u_InvalidText ?u_InvalidCommand ?u_NotAPlan ?u_NotClaims ?u_NotFlipped ?u_NotATable ?u_NotASample ?u_StateError ?u_UnknownName ?u_UnknownRow ?u_KnownRow ?u_SameRank ?u_Contradiction ?u_NotHeld ?u_Busy ?u_NothingToUndo ?u_LimitError ?u_TooFew ?u_TooFine ?u_Ratio ?a_is_integer ?l_is_integer ?c_is_integer ?k_is_integer ?a_Ratio___init__ ?fn_Ratio___init__ ?l_Ratio___init__ ?lD_Ratio___init__ ?c_Ratio___init__ ?k_Ratio___init__ ?a_Ratio___repr__ ?fn_Ratio___repr__ ?l_Ratio___repr__ ?c_Ratio___repr__ ?k_Ratio___repr__ ?a_q_purse ?l_q_purse ?c_q_purse ?k_q_purse ?a_q_draw ?l_q_draw ?c_q_draw ?k_q_draw ?a_q_first_words ?l_q_first_words ?c_q_first_words ?k_q_first_words ?a_q_words ?l_q_words ?c_q_words ?k_q_words ?a_q_numbers ?l_q_numbers ?c_q_numbers ?k_q_numbers ?a_q_places ?l_q_places ?c_q_places ?k_q_places ?a_q_others ?l_q_others ?c_q_others ?k_q_others ?a_q_states ?l_q_states ?c_q_states ?k_q_states ?a_q_limits ?l_q_limits ?c_q_limits ?k_q_limits ?a_q_all_right ?l_q_all_right ?c_q_all_right ?k_q_all_right ?a_q_right ?l_q_right ?c_q_right ?k_q_right ?a_law ?l_law ?c_law ?k_law ?y_isinstance ?y_int ?y_bool ?y_len ?y_abs ?y_divmod ?y_ValueError ?y_LookupError ?y_ArithmeticError ?y_repr ?y_range ?y_max ?y_min ?u_gcd ?rd_Ratio ?sg_Ratio ?kb_dict_Ratio ?kb_list_Ratio ?kb_tuple_Ratio ?kb_str_Ratio ?kb_int_Ratio ?kb_bool_Ratio ?kb_NoneType_Ratio ?pg_Ratio ?hd_Ratio ?po_Ratio ?sa_Ratio ?nftop_Ratio ?nfbottom_Ratio ?nffloor_Ratio ?ha_Ratio ?hm_Ratio ?hn_ ?ht_ ?ki_dict_Ratio ?nf_dict_Ratio ?ki_list_Ratio ?nf_list_Ratio ?ki_tuple_Ratio ?nf_tuple_Ratio ?ki_str_Ratio ?nf_str_Ratio ?ki_int_Ratio ?nf_int_Ratio ?ki_bool_Ratio ?nf_bool_Ratio ?ki_NoneType_Ratio ?nf_NoneType_Ratio ?ko_Ratio_Ratio ?no_Ratio_Ratio ?mk_Ratio ?kp_Ratio ?ii_InvalidNumber ?ti_InvalidNumber ?li_InvalidNumber ?ci_InvalidNumber ?ki_InvalidNumber ?hb_InvalidNumber ?ii_InvalidRatio ?ti_InvalidRatio ?li_InvalidRatio ?ci_InvalidRatio ?ki_InvalidRatio ?hb_InvalidRatio ?ii_InvalidShare ?ti_InvalidShare ?li_InvalidShare ?ci_InvalidShare ?ki_InvalidShare ?hb_InvalidShare ?ii_InvalidName ?ti_InvalidName ?li_InvalidName ?ci_InvalidName ?ki_InvalidName ?hb_InvalidName ?ii_InvalidRows ?ti_InvalidRows ?li_InvalidRows ?ci_InvalidRows ?ki_InvalidRows ?hb_InvalidRows ?ii_NotRising ?ti_NotRising ?li_NotRising ?ci_NotRising ?ki_NotRising ?hb_NotRising ?ii_InvalidLimits ?ti_InvalidLimits ?li_InvalidLimits ?ci_InvalidLimits ?ki_InvalidLimits ?hb_InvalidLimits ?ii_InvalidLooks ?ti_InvalidLooks ?li_InvalidLooks ?ci_InvalidLooks ?ki_InvalidLooks ?hb_InvalidLooks ?ii_InvalidMarks ?ti_InvalidMarks ?li_InvalidMarks ?ci_InvalidMarks ?ki_InvalidMarks ?hb_InvalidMarks ?ii_InvalidState ?ti_InvalidState ?li_InvalidState ?ci_InvalidState ?ki_InvalidState ?hb_InvalidState ?ii_InvalidLines ?ti_InvalidLines ?li_InvalidLines ?ci_InvalidLines ?ki_InvalidLines ?hb_InvalidLines ?ii_InvalidSize ?ti_InvalidSize ?li_InvalidSize ?ci_InvalidSize ?ki_InvalidSize ?hb_InvalidSize ?ii_InvalidMarked ?ti_InvalidMarked ?li_InvalidMarked ?ci_InvalidMarked ?ki_InvalidMarked ?hb_InvalidMarked ?ii_InvalidSeries ?ti_InvalidSeries ?li_InvalidSeries ?ci_InvalidSeries ?ki_InvalidSeries ?hb_InvalidSeries ?ii_InvalidModulus ?ti_InvalidModulus ?li_InvalidModulus ?ci_InvalidModulus ?ki_InvalidModulus ?hb_InvalidModulus ?ii_InvalidKeys ?ti_InvalidKeys ?li_InvalidKeys ?ci_InvalidKeys ?ki_InvalidKeys ?hb_InvalidKeys ?ii_InvalidLayers ?ti_InvalidLayers ?li_InvalidLayers ?ci_InvalidLayers ?ki_InvalidLayers ?hb_InvalidLayers ?ii_InvalidTables ?ti_InvalidTables ?li_InvalidTables ?ci_InvalidTables ?ki_InvalidTables ?hb_InvalidTables ?ii_InvalidDeeds ?ti_InvalidDeeds ?li_InvalidDeeds ?ci_InvalidDeeds ?ki_InvalidDeeds ?hb_InvalidDeeds ?ii_InvalidText ?ti_InvalidText ?li_InvalidText ?ci_InvalidText ?ki_InvalidText ?hb_InvalidText ?ii_InvalidCommand ?ti_InvalidCommand ?li_InvalidCommand ?ci_InvalidCommand ?ki_InvalidCommand ?hb_InvalidCommand ?ii_NotAPlan ?ti_NotAPlan ?li_NotAPlan ?ci_NotAPlan ?ki_NotAPlan ?hb_NotAPlan ?ii_NotClaims ?ti_NotClaims ?li_NotClaims ?ci_NotClaims ?ki_NotClaims ?hb_NotClaims ?ii_NotFlipped ?ti_NotFlipped ?li_NotFlipped ?ci_NotFlipped ?ki_NotFlipped ?hb_NotFlipped ?ii_NotATable ?ti_NotATable ?li_NotATable ?ci_NotATable ?ki_NotATable ?hb_NotATable ?ii_NotASample ?ti_NotASample ?li_NotASample ?ci_NotASample ?ki_NotASample ?hb_NotASample ?ii_UnknownName ?ti_UnknownName ?li_UnknownName ?ci_UnknownName ?ki_UnknownName ?hb_UnknownName ?ii_UnknownRow ?ti_UnknownRow ?li_UnknownRow ?ci_UnknownRow ?ki_UnknownRow ?hb_UnknownRow ?ii_KnownRow ?ti_KnownRow ?li_KnownRow ?ci_KnownRow ?ki_KnownRow ?hb_KnownRow ?ii_SameRank ?ti_SameRank ?li_SameRank ?ci_SameRank ?ki_SameRank ?hb_SameRank ?ii_Contradiction ?ti_Contradiction ?li_Contradiction ?ci_Contradiction ?ki_Contradiction ?hb_Contradiction ?ii_NotHeld ?ti_NotHeld ?li_NotHeld ?ci_NotHeld ?ki_NotHeld ?hb_NotHeld ?ii_TooFew ?ti_TooFew ?li_TooFew ?ci_TooFew ?ki_TooFew ?hb_TooFew ?ii_TooFine ?ti_TooFine ?li_TooFine ?ci_TooFine ?ki_TooFine ?hb_TooFine ?hq_Busy ?hk_Busy ?hq_NothingToUndo ?hk_NothingToUndo ?kall_
    (case u_BOTTOM => k_is)
    (case u_CLASSES => k_is)
    (case u_FROM => k_is)
    (case u_LONGEST => k_is)
    (case u_MODULUS => k_is)
    (case u_OFFSET => k_is)
    (case u_SIZE => k_is)
    (case u_InputError => k_is)
    (case u_InvalidNumber => k_is)
    (case u_InvalidRatio => k_is)
    (case u_InvalidShare => k_is)
    (case u_InvalidName => k_is)
    (case u_InvalidRows => k_is)
    (case u_NotRising => k_is)
    (case u_InvalidLimits => k_is)
    (case u_InvalidLooks => k_is)
    (case u_InvalidMarks => k_is)
    (case u_InvalidState => k_is)
    (case u_InvalidLines => k_is)
    (case u_InvalidSize => k_is)
    (case u_InvalidMarked => k_is)
    (case u_InvalidSeries => k_is)
    (case u_InvalidModulus => k_is)
    (case u_InvalidKeys => k_is)
    (case u_InvalidLayers => k_is)
    (case u_InvalidTables => k_is)
    (case u_InvalidDeeds => k_is)
    (case u_InvalidText => k_is)
    (case u_InvalidCommand => k_is)
    (case u_NotAPlan => k_is)
    (case u_NotClaims => k_is)
    (case u_NotFlipped => k_is)
    (case u_NotATable => k_is)
    (case u_NotASample => k_is)
    (case u_StateError => k_is)
    (case u_UnknownName => k_is)
    (case u_UnknownRow => k_is)
    (case u_KnownRow => k_is)
    (case u_SameRank => k_is)
    (case u_Contradiction => k_is)
    (case u_NotHeld => k_is)
    (case u_Busy => k_is)
    (case u_NothingToUndo => k_is)
    (case u_LimitError => k_is)
    (case u_TooFew => k_is)
    (case u_TooFine => k_is)
    (case u_Ratio => k_is)
    (case a_is_integer => k_is)
    (case l_is_integer => k_is)
    (case c_is_integer => k_is)
    (case k_is_integer => k_is)
    (case a_Ratio___init__ => k_is)
    (case fn_Ratio___init__ => k_is)
    (case l_Ratio___init__ => k_is)
    (case lD_Ratio___init__ => k_is)
    (case c_Ratio___init__ => k_is)
    (case k_Ratio___init__ => k_is)
    (case a_Ratio___repr__ => k_is)
    (case fn_Ratio___repr__ => k_is)
    (case l_Ratio___repr__ => k_is)
    (case c_Ratio___repr__ => k_is)
    (case k_Ratio___repr__ => k_is)
    (case a_q_purse => k_is)
    (case l_q_purse => k_is)
    (case c_q_purse => k_is)
    (case k_q_purse => k_is)
    (case a_q_draw => k_is)
    (case l_q_draw => k_is)
    (case c_q_draw => k_is)
    (case k_q_draw => k_is)
    (case a_q_first_words => k_is)
    (case l_q_first_words => k_is)
    (case c_q_first_words => k_is)
    (case k_q_first_words => k_is)
    (case a_q_words => k_is)
    (case l_q_words => k_is)
    (case c_q_words => k_is)
    (case k_q_words => k_is)
    (case a_q_numbers => k_is)
    (case l_q_numbers => k_is)
    (case c_q_numbers => k_is)
    (case k_q_numbers => k_is)
    (case a_q_places => k_is)
    (case l_q_places => k_is)
    (case c_q_places => k_is)
    (case k_q_places => k_is)
    (case a_q_others => k_is)
    (case l_q_others => k_is)
    (case c_q_others => k_is)
    (case k_q_others => k_is)
    (case a_q_states => k_is)
    (case l_q_states => k_is)
    (case c_q_states => k_is)
    (case k_q_states => k_is)
    (case a_q_limits => k_is)
    (case l_q_limits => k_is)
    (case c_q_limits => k_is)
    (case k_q_limits => k_is)
    (case a_q_all_right => k_is)
    (case l_q_all_right => k_is)
    (case c_q_all_right => k_is)
    (case k_q_all_right => k_is)
    (case a_q_right => k_is)
    (case l_q_right => k_is)
    (case c_q_right => k_is)
    (case k_q_right => k_is)
    (case a_law => k_is)
    (case l_law => k_is)
    (case c_law => k_is)
    (case k_law => k_is)
    (case y_isinstance => k_is)
    (case y_int => k_is)
    (case y_bool => k_is)
    (case y_len => k_is)
    (case y_abs => k_is)
    (case y_divmod => k_is)
    (case y_ValueError => k_is)
    (case y_LookupError => k_is)
    (case y_ArithmeticError => k_is)
    (case y_repr => k_is)
    (case y_range => k_is)
    (case y_max => k_is)
    (case y_min => k_is)
    (case u_gcd => k_is)
    (case rd_Ratio => k_is)
    (case sg_Ratio => k_is)
    (case kb_dict_Ratio => first | rfl | k_is)
    (case kb_list_Ratio => first | rfl | k_is)
    (case kb_tuple_Ratio => first | rfl | k_is)
    (case kb_str_Ratio => first | rfl | k_is)
    (case kb_int_Ratio => first | rfl | k_is)
    (case kb_bool_Ratio => first | rfl | k_is)
    (case kb_NoneType_Ratio => first | rfl | k_is)
    (case pg_Ratio => k_is)
    (case hd_Ratio => k_is)
    (case po_Ratio => k_is)
    (case sa_Ratio => k_is)
    (case nftop_Ratio => k_is)
    (case nfbottom_Ratio => k_is)
    (case nffloor_Ratio => k_is)
    (case ha_Ratio => k_is)
    (case hm_Ratio => k_is)
    (case hn_ => k_is)
    (case ht_ => k_is)
    (case ki_dict_Ratio => first | rfl | k_is)
    (case nf_dict_Ratio => first | rfl | k_is)
    (case ki_list_Ratio => first | rfl | k_is)
    (case nf_list_Ratio => first | rfl | k_is)
    (case ki_tuple_Ratio => first | rfl | k_is)
    (case nf_tuple_Ratio => first | rfl | k_is)
    (case ki_str_Ratio => first | rfl | k_is)
    (case nf_str_Ratio => first | rfl | k_is)
    (case ki_int_Ratio => first | rfl | k_is)
    (case nf_int_Ratio => first | rfl | k_is)
    (case ki_bool_Ratio => first | rfl | k_is)
    (case nf_bool_Ratio => first | rfl | k_is)
    (case ki_NoneType_Ratio => first | rfl | k_is)
    (case nf_NoneType_Ratio => first | rfl | k_is)
    (case ko_Ratio_Ratio => first | rfl | k_is)
    (case no_Ratio_Ratio => first | rfl | k_is)
    (case mk_Ratio => k_is)
    (case kp_Ratio => k_is)
    (case ii_InvalidNumber => k_is)
    (case ti_InvalidNumber => k_is)
    (case li_InvalidNumber => k_is)
    (case ci_InvalidNumber => k_is)
    (case ki_InvalidNumber => k_is)
    (case hb_InvalidNumber => kernel_rfl)
    (case ii_InvalidRatio => k_is)
    (case ti_InvalidRatio => k_is)
    (case li_InvalidRatio => k_is)
    (case ci_InvalidRatio => k_is)
    (case ki_InvalidRatio => k_is)
    (case hb_InvalidRatio => kernel_rfl)
    (case ii_InvalidShare => k_is)
    (case ti_InvalidShare => k_is)
    (case li_InvalidShare => k_is)
    (case ci_InvalidShare => k_is)
    (case ki_InvalidShare => k_is)
    (case hb_InvalidShare => kernel_rfl)
    (case ii_InvalidName => k_is)
    (case ti_InvalidName => k_is)
    (case li_InvalidName => k_is)
    (case ci_InvalidName => k_is)
    (case ki_InvalidName => k_is)
    (case hb_InvalidName => kernel_rfl)
    (case ii_InvalidRows => k_is)
    (case ti_InvalidRows => k_is)
    (case li_InvalidRows => k_is)
    (case ci_InvalidRows => k_is)
    (case ki_InvalidRows => k_is)
    (case hb_InvalidRows => kernel_rfl)
    (case ii_NotRising => k_is)
    (case ti_NotRising => k_is)
    (case li_NotRising => k_is)
    (case ci_NotRising => k_is)
    (case ki_NotRising => k_is)
    (case hb_NotRising => kernel_rfl)
    (case ii_InvalidLimits => k_is)
    (case ti_InvalidLimits => k_is)
    (case li_InvalidLimits => k_is)
    (case ci_InvalidLimits => k_is)
    (case ki_InvalidLimits => k_is)
    (case hb_InvalidLimits => kernel_rfl)
    (case ii_InvalidLooks => k_is)
    (case ti_InvalidLooks => k_is)
    (case li_InvalidLooks => k_is)
    (case ci_InvalidLooks => k_is)
    (case ki_InvalidLooks => k_is)
    (case hb_InvalidLooks => kernel_rfl)
    (case ii_InvalidMarks => k_is)
    (case ti_InvalidMarks => k_is)
    (case li_InvalidMarks => k_is)
    (case ci_InvalidMarks => k_is)
    (case ki_InvalidMarks => k_is)
    (case hb_InvalidMarks => kernel_rfl)
    (case ii_InvalidState => k_is)
    (case ti_InvalidState => k_is)
    (case li_InvalidState => k_is)
    (case ci_InvalidState => k_is)
    (case ki_InvalidState => k_is)
    (case hb_InvalidState => kernel_rfl)
    (case ii_InvalidLines => k_is)
    (case ti_InvalidLines => k_is)
    (case li_InvalidLines => k_is)
    (case ci_InvalidLines => k_is)
    (case ki_InvalidLines => k_is)
    (case hb_InvalidLines => kernel_rfl)
    (case ii_InvalidSize => k_is)
    (case ti_InvalidSize => k_is)
    (case li_InvalidSize => k_is)
    (case ci_InvalidSize => k_is)
    (case ki_InvalidSize => k_is)
    (case hb_InvalidSize => kernel_rfl)
    (case ii_InvalidMarked => k_is)
    (case ti_InvalidMarked => k_is)
    (case li_InvalidMarked => k_is)
    (case ci_InvalidMarked => k_is)
    (case ki_InvalidMarked => k_is)
    (case hb_InvalidMarked => kernel_rfl)
    (case ii_InvalidSeries => k_is)
    (case ti_InvalidSeries => k_is)
    (case li_InvalidSeries => k_is)
    (case ci_InvalidSeries => k_is)
    (case ki_InvalidSeries => k_is)
    (case hb_InvalidSeries => kernel_rfl)
    (case ii_InvalidModulus => k_is)
    (case ti_InvalidModulus => k_is)
    (case li_InvalidModulus => k_is)
    (case ci_InvalidModulus => k_is)
    (case ki_InvalidModulus => k_is)
    (case hb_InvalidModulus => kernel_rfl)
    (case ii_InvalidKeys => k_is)
    (case ti_InvalidKeys => k_is)
    (case li_InvalidKeys => k_is)
    (case ci_InvalidKeys => k_is)
    (case ki_InvalidKeys => k_is)
    (case hb_InvalidKeys => kernel_rfl)
    (case ii_InvalidLayers => k_is)
    (case ti_InvalidLayers => k_is)
    (case li_InvalidLayers => k_is)
    (case ci_InvalidLayers => k_is)
    (case ki_InvalidLayers => k_is)
    (case hb_InvalidLayers => kernel_rfl)
    (case ii_InvalidTables => k_is)
    (case ti_InvalidTables => k_is)
    (case li_InvalidTables => k_is)
    (case ci_InvalidTables => k_is)
    (case ki_InvalidTables => k_is)
    (case hb_InvalidTables => kernel_rfl)
    (case ii_InvalidDeeds => k_is)
    (case ti_InvalidDeeds => k_is)
    (case li_InvalidDeeds => k_is)
    (case ci_InvalidDeeds => k_is)
    (case ki_InvalidDeeds => k_is)
    (case hb_InvalidDeeds => kernel_rfl)
    (case ii_InvalidText => k_is)
    (case ti_InvalidText => k_is)
    (case li_InvalidText => k_is)
    (case ci_InvalidText => k_is)
    (case ki_InvalidText => k_is)
    (case hb_InvalidText => kernel_rfl)
    (case ii_InvalidCommand => k_is)
    (case ti_InvalidCommand => k_is)
    (case li_InvalidCommand => k_is)
    (case ci_InvalidCommand => k_is)
    (case ki_InvalidCommand => k_is)
    (case hb_InvalidCommand => kernel_rfl)
    (case ii_NotAPlan => k_is)
    (case ti_NotAPlan => k_is)
    (case li_NotAPlan => k_is)
    (case ci_NotAPlan => k_is)
    (case ki_NotAPlan => k_is)
    (case hb_NotAPlan => kernel_rfl)
    (case ii_NotClaims => k_is)
    (case ti_NotClaims => k_is)
    (case li_NotClaims => k_is)
    (case ci_NotClaims => k_is)
    (case ki_NotClaims => k_is)
    (case hb_NotClaims => kernel_rfl)
    (case ii_NotFlipped => k_is)
    (case ti_NotFlipped => k_is)
    (case li_NotFlipped => k_is)
    (case ci_NotFlipped => k_is)
    (case ki_NotFlipped => k_is)
    (case hb_NotFlipped => kernel_rfl)
    (case ii_NotATable => k_is)
    (case ti_NotATable => k_is)
    (case li_NotATable => k_is)
    (case ci_NotATable => k_is)
    (case ki_NotATable => k_is)
    (case hb_NotATable => kernel_rfl)
    (case ii_NotASample => k_is)
    (case ti_NotASample => k_is)
    (case li_NotASample => k_is)
    (case ci_NotASample => k_is)
    (case ki_NotASample => k_is)
    (case hb_NotASample => kernel_rfl)
    (case ii_UnknownName => k_is)
    (case ti_UnknownName => k_is)
    (case li_UnknownName => k_is)
    (case ci_UnknownName => k_is)
    (case ki_UnknownName => k_is)
    (case hb_UnknownName => kernel_rfl)
    (case ii_UnknownRow => k_is)
    (case ti_UnknownRow => k_is)
    (case li_UnknownRow => k_is)
    (case ci_UnknownRow => k_is)
    (case ki_UnknownRow => k_is)
    (case hb_UnknownRow => kernel_rfl)
    (case ii_KnownRow => k_is)
    (case ti_KnownRow => k_is)
    (case li_KnownRow => k_is)
    (case ci_KnownRow => k_is)
    (case ki_KnownRow => k_is)
    (case hb_KnownRow => kernel_rfl)
    (case ii_SameRank => k_is)
    (case ti_SameRank => k_is)
    (case li_SameRank => k_is)
    (case ci_SameRank => k_is)
    (case ki_SameRank => k_is)
    (case hb_SameRank => kernel_rfl)
    (case ii_Contradiction => k_is)
    (case ti_Contradiction => k_is)
    (case li_Contradiction => k_is)
    (case ci_Contradiction => k_is)
    (case ki_Contradiction => k_is)
    (case hb_Contradiction => kernel_rfl)
    (case ii_NotHeld => k_is)
    (case ti_NotHeld => k_is)
    (case li_NotHeld => k_is)
    (case ci_NotHeld => k_is)
    (case ki_NotHeld => k_is)
    (case hb_NotHeld => kernel_rfl)
    (case ii_TooFew => k_is)
    (case ti_TooFew => k_is)
    (case li_TooFew => k_is)
    (case ci_TooFew => k_is)
    (case ki_TooFew => k_is)
    (case hb_TooFew => kernel_rfl)
    (case ii_TooFine => k_is)
    (case ti_TooFine => k_is)
    (case li_TooFine => k_is)
    (case ci_TooFine => k_is)
    (case ki_TooFine => k_is)
    (case hb_TooFine => kernel_rfl)
    (case hq_Busy => k_exc)
    (case hk_Busy => k_is)
    (case hq_NothingToUndo => k_exc)
    (case hk_NothingToUndo => k_is)
    (case kall_ => kernel_rfl)
