import PyProof.Rows.All
import Wide.All
import OpenK.AllK
import Wide.FinOn
import HandS.ForMost
import HandS.Deep
import HandS.Gcd
import HandS.IsInst
import HandS.Wide
import HandS.WideBits
import HandS.FStrTup
import HandS.Walk
import KE.GoesEnum
import KE.GoesMore
import KE.GoesZip
import HandS.Iter
import KE.KUnpack
import HandS.Style
import HandS.ExcInit
import HandS.ExcField
import HandS.Zip
import HandS.WordsExc
import HandS.ForExc
import HandS.SetFor
import HandS.Strs
import PySem.Challenge.RW_pointrows_k53_whole_lengths_there_and_ba
set_option Elab.async false
set_option linter.all false
set_option maxRecDepth 100000
set_option maxHeartbeats 4000000
namespace G0
open PySem PySem.Spec PyProof.Rows L2
/-! A def's promise where no repr is under way (the around's guards are empty): repr of data is then known. -/
structure FnG (P : Program) (w : World) (K : PySem.W.Frag) (mg : Str → Option Value) (base : Heap) (k : Nat) (f : Addr) (fd : FuncData) (ps : List Str) (sp : Sp) : Prop where
  len : ∀ vs H Q E, sp vs H Q E → vs.length = ps.length
  run : ∀ (A : Around) (outer : List Env) (s : Shared) (H : Hp) (args : Args) (us : List Value) (vs : List V) (Q : VK) (E : XK), A.guards = some [] → Room k A →
    Env0 P w K mg base A outer s H → BindsTo s fd args (ps.zip us) → Vals vs us → sp vs H Q E → codeAny (model P w) A (.call (.ref f) args) (CR CX0 outer P w H s Q E) s
theorem FnG.ofOk {P : Program} {w : World} {K : PySem.W.Frag} {mg : Str → Option Value} {base : Heap} {k : Nat} {f : Addr} {fd : FuncData} {ps : List Str} {sp : Sp} (F : FnOk P w K mg base CX0 k f fd ps sp) : FnG P w K mg base k f fd ps sp :=
  ⟨F.len, fun A outer s H args us vs Q E _ hr he hb hv hs => F.run A outer s H args us vs Q E hr he hb hv hs⟩
theorem FnG.mono {P : Program} {w : World} {K : PySem.W.Frag} {mg : Str → Option Value} {base : Heap} {j k : Nat} {f : Addr} {fd : FuncData} {ps : List Str} {sp : Sp} (F : FnG P w K mg base j f fd ps sp) (h : j ≤ k) : FnG P w K mg base k f fd ps sp :=
  ⟨F.len, fun A outer s H args us vs Q E hg hr => F.run A outer s H args us vs Q E hg (hr.mono h)⟩

section
variable {X : Cx} {k : Nat} {f : Addr} {fd : FuncData} {ps : List Str} {sp : Sp} {dvs : List V} {ds : List Value} {E : XK} {x : Str} {p pos : Pos} {e : Expr} {es : List Expr} {t : TA}
theorem run_g {pn : List (Addr × Obj)} {σ : L2.St} {H : Hp} {s : Shared} {Q : VK} {us : List Value} {vs : List V} (F : FnG X.prog X.w X.K X.mg X.base k f fd ps sp) (gd : X.A.guards = some []) (room : Room k X.A) (bn : Binds X.K fd ps ds) (dv : Vals dvs ds)
    (J : Inv X pn σ H s) (rv : Vals vs us) (want : sp (vs ++ dvs) H Q E) : wpAny (model X.prog X.w) X.A (call (.ref f) us) (EP X pn σ Q) X.xe s := by
  have rv2 := rv.append dv
  have ln : (us ++ ds).length = ps.length := rv2.length.symm.trans (F.len _ _ _ _ want)
  refine wpAny_call (codeAny_mono (F.run X.A X.stack s H ⟨us, []⟩ (us ++ ds) (vs ++ dvs) Q E gd room J.env0 (bn s us J.kIn ln) rv2 want) fun res s2 got => ?_)
  match res, got with
  | .error _, got => exact got.elim
  | .ok (.ret _), got => exact J.after got
  | .ok .next, got => exact got.elim
  | .ok .brk, got => exact got.elim
  | .ok .cont, got => exact got.elim
theorem pe_callG (F : FnG X.prog X.w X.K X.mg X.base k f fd ps sp) (gd : X.A.guards = some []) (room : Room k X.A) (gl : Gl X x) (at_ : X.mg x = some (.ref f)) (kp : PySem.W.keepIn X.K (.ref f) = true) (bn : Binds X.K fd ps ds) (dv : Vals dvs ds)
    (pa : PA X (e :: es) t) (hdb : (x == ("__debug__" : Str)) = false := by decide) (he : starEach (e :: es) X.env = (false, eval e X.env) :: starEach es X.env := by rfl) (hpl : (backTo pos (starEach es X.env)).any (·.1) = false := by rfl) :
    PE X (.Call (.Name x p) (e :: es) [] pos) (tCall sp dvs E t) := by
  constructor
  intro pn s σ H Q J want
  apply wpAny_Call_Name_kw
  refine ld_glob J gl at_ ?_ hdb
  refine PySem.W.callWith_K (h₀ := X.base) J.ok.mod.kin kp ?_ he hpl
  refine thn (pa.run pos pn s σ H _ J want) ?_
  rintro us s1 ⟨vs, H1, J1, rv, q⟩
  exact ⟨J1.kIn, run_g F gd room bn dv J1 rv q⟩
end

/-- a def's body, the guards empty -/
theorem _root_.L2.Fun.okG {P : Program} {w : World} {K : PySem.W.Frag} {mg : Str → Option Value} {base : Heap} {x qual : Str} {st : Stmt} {f : Addr} {fd : FuncData} {N ps : List Str} {k : Nat} {sp : Sp} (F : Fun K x qual st f fd) (S : FnScope N ps (defScope st))
    (ln : ∀ vs H Q E, sp vs H Q E → vs.length = ps.length)
    (body : ∀ (cdv : Value) (A : Around) (outer : List Env) (s : Shared) (H : Hp) (vs : List V) (Q : VK) (E : XK), (A.deeper (envOfC qual (defScope st) s.heap.objs.size f cdv)).guards = some [] → Room k (A.deeper (envOfC qual (defScope st) s.heap.objs.size f cdv)) → sp vs H Q E →
      ∃ t, PSs (cxOf CX0 P w K mg base N qual (defScope st) f cdv A outer s H E).nox (defBody st) t ∧ t { nx := fun _ H' => Q .non H', rt := Q } (start N vs) H) : FnG P w K mg base (k + 1) f fd ps sp := by
  obtain ⟨oc, od, kV, doc, pm, an, cdv, ct, osl, rfl, look, code⟩ := F.ex
  constructor
  · exact ln
  intro A outer s H args us vs Q E gd room e0 bn rv want
  have ln1 := ln _ _ _ _ want
  have kin : K.In s.heap := e0.mod.kin.keeps fun b o q => (e0.bs b o q).1
  have nolim : s.heap.NoLimit := e0.mod.nolimit.keeps fun b o q => (e0.bs b o q).1
  have kinds : ∀ y ∈ ps.zip us, (defScope st).names.lookup y.1 = some .local ∨ ((defScope st).names.lookup y.1 = some .cell ∧ ((cellsFrom (s.heap.objs.size + 1) (defScope st).names []).lookup y.1).isSome = true) := by
    rintro ⟨n, v⟩ mem
    rcases S.par n (List.of_mem_zip mem).1 with here | here
    · exact .inl here
    · exact .inr ⟨here, PySem.W.cellsFrom_some _ _ _ (.inl here)⟩
  refine codeAny_call_function room.depth (kin _ _ look) rfl S.co S.gen rfl (PySem.W.codeRec_of kin code) (bn _ _ _ _ ?_)
  refine wpAny_newFunctionEnv_cells S.kind kinds fun env he s1 into => ?_
  cases he
  refine ⟨nolim.keeps into.toInCall.keep, codeAny_func ?_⟩
  obtain ⟨t, ht, run⟩ := body cdv A outer s H vs Q E gd (room.deeper _) want
  have J : Inv (cxOf CX0 P w K mg base N qual (defScope st) f cdv A outer s H E) [] (start N vs) H s1 := inv_start S room.hd e0 ln1 rv into
  refine wpAny_mono (ht.nox.run [] s1 (start N vs) H _ J run) (fun fl s2 got => ?_) fun _ _ got => got
  match fl, got with
  | .ret u, ⟨v, σ2, H2, J2, rv2, q⟩ => exact ⟨v, H2, J2.os, J2.bare, J2.base, J2.hok, rv2, q⟩
  | .next, ⟨σ2, H2, J2, q⟩ => exact ⟨.non, H2, J2.os, J2.bare, J2.base, J2.hok, rfl, q⟩
  | .brk, ⟨_, _, _, q⟩ => exact q.elim
  | .cont, ⟨_, _, _, q⟩ => exact q.elim

/-! ### repr of data -/
def rRepr (K : PySem.W.Frag) : List V → Hp → VK → Prop := fun xs H Q => ∃ (x : V) (d : PyData), xs = [x] ∧ Dp K H x d ∧ d.showable = true ∧ d.hasDict = false ∧ d.depth ≤ 16 ∧ d.shown.length ≤ sizeLine ∧ Q (.str d.shown) H
theorem cr_repr {X : Cx} (gd : X.A.guards = some []) (hu : X.A.units + 64 < cLine) : CallR X (.builtin "repr") (fun xs H Q => ∃ (a : Addr) (d : PyData), xs = [.ref a] ∧ Dp X.K H (.ref a) d ∧ d.showable = true ∧ d.hasDict = false ∧ d.depth ≤ 16 ∧ d.shown.length ≤ sizeLine ∧ Q (.str d.shown) H) := by
  intro pn s σ H xs us Q J rv h
  obtain ⟨a, d, rfl, dp, sh, nd, dep, z, q⟩ := h
  obtain ⟨u, rfl, ru⟩ := vals1 rv
  cases ru
  obtain ⟨as, rd⟩ := Dp.reads J d _ _ dp rfl
  refine repr_of_reads' rd sh (fun e => ?_) gd (by omega) (fun _ _ e => e) (fun h2 u2 tk keep => ?_) z
  · rw [nd] at e
    cases e
  · exact ⟨.str d.shown, H, J.kept keep, ⟨_, rfl⟩, q⟩
end G0

namespace G0
open PySem PySem.Spec PyProof.Rows L2
/-- the law is called where no repr is under way -/
theorem call_top {P : Program} {w : World} {K : PySem.W.Frag} {mg mb : Str → Option Value} {k : Nat} {fa a : Addr} {fd : FuncData} {x : Str} {sp : Sp} {s1 : Shared} {vs : List Value} {ns : List Int}
    (kin : K.In s1.heap) (hns : s1.heap.Ns mainGlobals mg) (hb : s1.heap.Ns builtinsNs mb) (hbb : ∀ x : Str, x ≠ "__name__" → mb x = bootBuiltins x) (lim : s1.heap.NoLimit) (gens : s1.gens = #[])
    (ha : s1.heap.get? a = some { cls := .type "list", data := .seq vs.toArray }) (hi : IntsAre vs ns) (hl : ns.length ≤ sizeLine) (room : Room k callerA)
    (F : ∀ base : Heap, K.In base → base.Ns mainGlobals mg → FnG P w K mg base k fa fd [x] sp) (bind : ∀ (s : Shared) (u : Value), BindsTo s fd ⟨[u], []⟩ [(x, u)])
    (want : ∀ H : Hp, Only H → SqL K H a (ns.map V.int) → sp [.ref a] H (fun v _ => v = .bl true) fun _ _ _ => False) :
    codeAny (model P w) callerA (.call (.ref fa) ⟨[.ref a], []⟩) (fun r s2 => r = .ok (.ret (.bool true)) ∧ OldK s1.heap s2.heap ∧ s2.os = s1.os ∧ AllBare s2.gens) s1 := by
  have vv := vals_ints hi
  have lv := hi.length
  -- H tracks nothing, or the script alone
  have main : ∀ H : Hp, Only H → SqL K H a (ns.map V.int) → HOk P w H s1.heap → (∀ b, H b ≠ none → b = a ∧ K.lookup a = none) →
      codeAny (model P w) callerA (.call (.ref fa) ⟨[.ref a], []⟩) (fun r s2 => r = .ok (.ret (.bool true)) ∧ OldK s1.heap s2.heap ∧ s2.os = s1.os ∧ AllBare s2.gens) s1 := by
    intro H only sq hok just
    have free : ∀ {b : Addr} {ob : Obj} {es : Array DictEntry} {ep : Nat}, s1.heap.get? b = some ob → ob.data = .dict es ep → H b = none := by
      intro b ob es ep e1 e2
      refine Classical.byContradiction fun no => ?_
      obtain rfl := (just b no).1
      rw [ha] at e1
      cases e1
      cases (show Data.seq vs.toArray _ = Data.dict es ep from e2)
    have ns_of : ∀ {b : Addr} {m : Str → Option Value}, s1.heap.Ns b m → (hidT s1.heap H).Ns b m := by
      rintro b m ⟨ob, es, ep, e1, e2, rest⟩
      exact ⟨ob, es, ep, hidT_get e1 (free e1 e2), e2, rest⟩
    have kinH : K.In (hidT s1.heap H) := by
      intro b ob e1
      refine hidT_get (kin b ob e1) (Classical.byContradiction fun no => ?_)
      obtain ⟨rfl, z⟩ := just b no
      rw [z] at e1
      cases e1
    have limH : (hidT s1.heap H).NoLimit := by
      obtain ⟨mc, l1, l2⟩ := lim
      exact ⟨mc, ns_of l1, l2⟩
    have env : Env0 P w K mg (hidT s1.heap H) callerA [] s1 H := by
      refine ⟨rfl, ⟨kinH, ns_of hns, ⟨mb, ns_of hb, hbb⟩, limH⟩, fun b ob e1 => of_hidT e1, Nat.le_of_eq (hidT_size _ _), trivial, ?_, hok, .of_eq gens⟩
      intro b mem
      cases (show b ∈ ([] : List Addr) from mem)
    refine codeAny_mono ((F _ kinH (ns_of hns)).run callerA [] s1 H ⟨[.ref a], []⟩ [.ref a] [.ref a] _ _ rfl room env (bind s1 (.ref a)) (.cons rfl .nil) (want H only sq)) fun res s2 got => ?_
    match res, got with
    | .error _, got => exact got.elim
    | .ok .next, got => exact got.elim
    | .ok .brk, got => exact got.elim
    | .ok .cont, got => exact got.elim
    | .ok (.ret u), ⟨v, H2, eos, bare, un, hok2, rv, (q : v = .bl true)⟩ =>
      subst q
      obtain rfl : u = Value.bool true := rv
      refine ⟨rfl, OldK.of_keep fun b ob e1 => ?_, eos, bare⟩
      rcases only b with z | ⟨oz, ys, z⟩
      · refine un.keep b ob e1 z (fun mem => ?_) (fun mem => ?_)
        · cases (show b ∈ ([] : List Addr) from mem)
        · cases mem
      · obtain ⟨i1, _⟩ := hok b _ z
        obtain ⟨i2, _⟩ := hok2 b _ (un.frzs b oz _ z)
        exact i2.trans (i1.symm.trans e1)
  cases written : K.lookup a with
  | some ob =>
    have e1 := kin a ob written
    rw [ha] at e1
    cases e1
    refine main (fun _ => none) (fun _ => .inl rfl) (.inr ⟨_, vs.toArray, _, written, rfl, rfl, rfl, ?_, ?_⟩) (fun b u e2 => ?_) (fun b no => absurd rfl no)
    · rw [List.size_toArray, lv]
      exact hl
    · simpa using vv
    · cases (show (none : Option HO) = some u from e2)
  | none =>
    let T : Hp := fun b => if b = a then some (.frz { cls := .type "list", data := .seq vs.toArray } (.lst (ns.map V.int))) else none
    have here : T a = some (.frz { cls := .type "list", data := .seq vs.toArray } (.lst (ns.map V.int))) := if_pos rfl
    have away : ∀ b, b ≠ a → T b = none := fun b ne => if_neg ne
    refine main T (fun b => ?_) (.inl (.inr ⟨_, here⟩)) (fun b u e2 => ?_) (fun b no => ?_)
    · by_cases eb : b = a
      · subst eb
        exact .inr ⟨_, _, here⟩
      · exact .inl (away b eb)
    · by_cases eb : b = a
      · subst eb
        rw [here] at e2
        cases e2
        refine ⟨ha, ?_, vs, _, vv, ha⟩
        rw [List.length_map]
        exact hl
      · rw [away b eb] at e2
        cases e2
    · refine ⟨Classical.byContradiction fun ne => no (away b ne), written⟩
/-- what k_head leaves, by such a promise -/
theorem walk_G {l : PySem.W.OpenLaw} {n k : Nat} {q : Program} {loose : List Str} {XP : (Str → Option Value) → Heap → Prop} {YP : World → Heap → Prop} {d : DefRec} {K : Params → PySem.W.Frag} {sp : PySem.W.Frag → Sp} {x : Str}
    (most : l.most = some n) (fits : n ≤ sizeLine) (nodf : d.params.defaults = []) (room : Room k callerA) (hY : ∀ (w : World) (h : Heap), YP w h → (K w.params).In h)
    (F : ∀ (w : World) (mg : Str → Option Value) (fa : Addr) (h : Heap), (K w.params).In h → h.Ns mainGlobals mg → mg d.name = some (.ref fa) →
      ∃ fd : FuncData, (∀ (s : Shared) (u : Value), BindsTo s fd ⟨[u], []⟩ [(x, u)]) ∧ ∀ base : Heap, (K w.params).In base → base.Ns mainGlobals mg → FnG l.prog w (K w.params) mg base k fa fd [x] (sp (K w.params)))
    (want : ∀ (w : World) (H : Hp) (a : Addr) (ns : List Int), ns.length ≤ n → Only H → SqL (K w.params) H a (ns.map V.int) → sp (K w.params) [.ref a] H (fun v _ => v = .bl true) fun _ _ _ => False) :
    PySem.W.WalkO q loose XP YP l.row.toRowW d [] (fun f vs => PySem.call f vs) := by
  refine Att.attach_call most nodf ?_
  intro w s0 s1 mg mb fa o pm cd doc a vs ns G Y ho hd hcd hmg hobj iv len gens
  obtain ⟨fd, bn, hF⟩ := F w mg fa _ (hY w _ Y) G.T.g hmg
  exact call_top (hY w _ Y) G.T.g G.T.b G.T.builtins G.T.nolimit gens hobj iv (Nat.le_trans len fits) room hF bn fun H only sq => want w H a ns len only sq
end G0

namespace G0
open PySem PySem.Spec PyProof.Rows L2
/-! ### calls whose last arguments are all given by name, in the parameters' sequence -/
structure KB (fd : FuncData) (ps ks : List Str) (n : Nat) : Prop where
  to : ∀ us ws : List Value, us.length = n → ws.length = ks.length → bindArgs fd ⟨us, ks.zip ws⟩ = pure (ps.zip (us ++ ws))
theorem kb_of {K : PySem.W.Frag} {x qual : Str} {st : Stmt} {f : Addr} {fd : FuncData} {ps ks : List Str} {n : Nat} (F : Fun K x qual st f fd)
    (h : ∀ (kV doc pm : Value) (an : Option Addr) (cdv ct : Value) (us ws : List Value), us.length = n → ws.length = ks.length → bindArgs (PySem.W.fnOf x qual (defArgs st) (defBody st) (defScope st) .none kV doc pm an cdv ct) ⟨us, ks.zip ws⟩ = pure (ps.zip (us ++ ws))) : KB fd ps ks n := by
  obtain ⟨oc, od, kV, doc, pm, an, cdv, ct, osl, rfl, _, _⟩ := F.ex
  exact ⟨h kV doc pm an cdv ct⟩
section
variable {X : Cx} {k n : Nat} {f C : Addr} {fd : FuncData} {ps ks : List Str} {sp : Sp} {E : XK} {x m : Str} {p pos apos : Pos} {e o : Expr} {kws : List Keyword} {ta : TE} {tk : TA}
theorem run_kb {pn : List (Addr × Obj)} {σ : L2.St} {H : Hp} {s : Shared} {Q : VK} {us ws : List Value} {vs zs : List V} (F : FnOk X.prog X.w X.K X.mg X.base CX0 k f fd ps sp) (room : Room k X.A) (bn : KB fd ps ks n)
    (J : Inv X pn σ H s) (rv : Vals vs us) (rz : Vals zs ws) (l1 : vs.length = n) (l2 : zs.length = ks.length) (want : sp (vs ++ zs) H Q E) : wpAny (model X.prog X.w) X.A (call (.ref f) us (ks.zip ws)) (EP X pn σ Q) X.xe s := by
  refine wpAny_call (codeAny_mono (F.run X.A X.stack s H ⟨us, ks.zip ws⟩ (us ++ ws) (vs ++ zs) Q E room J.env0 (.of_eq (bn.to us ws (rv.length.symm.trans l1) (rz.length.symm.trans l2))) (rv.append rz) want) fun res s2 got => ?_)
  match res, got with
  | .error _, got => exact got.elim
  | .ok (.ret _), got => exact J.after got
  | .ok .next, got => exact got.elim
  | .ok .brk, got => exact got.elim
  | .ok .cont, got => exact got.elim
/-- f(k = v, ..) -/
def tCallN (sp : Sp) (n : Nat) (E : XK) (tk : TA) : TE := fun σ H Q => tk σ H fun zs H1 => zs.length = n ∧ sp zs H1 Q E
theorem pe_callN (F : FnOk X.prog X.w X.K X.mg X.base CX0 k f fd ps sp) (room : Room k X.A) (gl : Gl X x) (at_ : X.mg x = some (.ref f)) (kp : PySem.W.keepIn X.K (.ref f) = true) (bn : KB fd ps ks 0) (pk : PK X kws tk)
    (hall : (backToKw pos (keywordEach kws X.env)).all (·.1.isSome) = true := by rfl) (hks : (backToKw pos (keywordEach kws X.env)).filterMap (·.1) = ks := by rfl) (hdb : (x == ("__debug__" : Str)) = false := by decide)
    (hpl : ((backTo pos (starEach [] X.env)).any (·.1) || (backToKw pos (keywordEach kws X.env)).any (·.1.isNone)) = false := by rfl) : PE X (.Call (.Name x p) [] kws pos) (tCallN sp ks.length E tk) := by
  constructor
  intro pn s σ H Q J want
  apply wpAny_Call_Name_kw
  refine ld_glob J gl at_ ?_ hdb
  refine PySem.W.callWith_KW0 (h₀ := X.base) J.ok.mod.kin kp hall ?_ hpl
  refine thn (pk.run pos pn s σ H _ J want) ?_
  rintro ws s2 ⟨zs, H2, J2, rz, l2, q2⟩
  rw [hks]
  exact ⟨J2.kIn, run_kb (us := []) (vs := []) F room bn J2 .nil rz rfl l2 q2⟩
/-- o.m(k = v, ..) -/
def tMethN (C : Addr) (m : Str) (sp : Sp) (n : Nat) (E : XK) (ta : TE) (tk : TA) : TE := fun σ H Q => ta σ H fun x H1 => ∃ a dx fs, x = .ref a ∧ H1 a = some (.ins C dx fs) ∧ fs.lookup m = none ∧ tk σ H1 fun zs H2 => zs.length = n ∧ sp (x :: zs) H2 Q E
theorem pe_methN {pl : Sem Bool} (po : PE X o ta) (c : Cls X.K C) (hm : Meth X.K C m f) (F : FnOk X.prog X.w X.K X.mg X.base CX0 k f fd ps sp) (room : Room k X.A) (bn : KB fd ps ks 1) (pk : PK X kws tk)
    (hall : (backToKw pos (keywordEach kws X.env)).all (·.1.isSome) = true := by rfl) (hks : (backToKw pos (keywordEach kws X.env)).filterMap (·.1) = ks := by rfl)
    (hpl : ((backTo pos (starEach [] X.env)).any (·.1) || (backToKw pos (keywordEach kws X.env)).any (·.1.isNone)) = false := by rfl)
    (ht : eval (.Call (.Attribute o m apos) [] kws pos) X.env = (do
      let ov ← eval o X.env
      standAt apos.atName
      let (g, first) ← holding [ov] (getMethod ov m pl)
      callWith pos g first (backTo pos (starEach [] X.env)) (backToKw pos (keywordEach kws X.env))) := by rfl) :
    PE X (.Call (.Attribute o m apos) [] kws pos) (tMethN C m sp ks.length E ta tk) := by
  constructor
  intro pn s σ H Q J want
  refine PySem.W.methodCall_KW (pl := pl) (thn (po.run pn s σ H _ J want) ?_) ht
  rintro u s1 ⟨x, H1, J1, rx, a, dx, fs, rfl, ea, l, q⟩
  obtain rfl : u = Value.ref a := rx
  refine getmeth_ok J1 ea c hm l ?_
  refine PySem.W.callWith_KW0 (first := [.ref a]) (h₀ := X.base) J1.ok.mod.kin hm.kp hall ?_ hpl
  refine thn (pk.run pos pn s1 σ H1 _ J1 q) ?_
  rintro ws s2 ⟨zs, H2, J2, rz, l2, q2⟩
  rw [hks]
  refine ⟨J2.kIn, ?_⟩
  exact run_kb (us := [.ref a]) (vs := [.ref a]) F room bn J2 (.cons rfl .nil) rz rfl l2 q2
end

/-! ### data in the heap -/
theorem same_new {H : Hp} {q : Addr} {o : HO} (h : H q = none) : Same H (upd H q o) := fun b u e => by
  rw [upd_ne (ne_of_none e h)]
  exact e
theorem same_t {K : PySem.W.Frag} {H H' : Hp} {a : Addr} {xs : List V} (e : Same H H') (h : SqT K H a xs) : SqT K H' a xs := by
  rcases h with (h | ⟨o, h⟩) | h
  · exact .inl (.inl (e _ _ h))
  · exact .inl (.inr ⟨o, e _ _ h⟩)
  · exact .inr h
/-- a list or a tuple -/
def Sq (K : PySem.W.Frag) (H : Hp) (a : Addr) (xs : List V) : Prop := SqL K H a xs ∨ SqT K H a xs
theorem Sq.same {K : PySem.W.Frag} {H H' : Hp} {a : Addr} {xs : List V} (e : Same H H') (h : Sq K H a xs) : Sq K H' a xs := h.imp e.seq (same_t e)
theorem SqT.mk {K : PySem.W.Frag} {H : Hp} {a : Addr} {xs : List V} (h : H a = some (.tup xs)) : SqT K H a xs := .inl (.inl h)
theorem SqL.mk {K : PySem.W.Frag} {H : Hp} {a : Addr} {xs : List V} (h : H a = some (.lst xs)) : SqL K H a xs := .inl (.inl h)
mutual
theorem Dp.same {K : PySem.W.Frag} {H H' : Hp} (e : Same H H') : ∀ {v : V} {d : PyData}, Dp K H v d → Dp K H' v d
  | _, _, .non => .non
  | _, _, .bl b => .bl b
  | _, _, .int i => .int i
  | _, _, .str x => .str x
  | _, _, .lst h a => .lst (e.seq h) (DpAll.same e a)
  | _, _, .tup h a => .tup (same_t e h) (DpAll.same e a)
theorem DpAll.same {K : PySem.W.Frag} {H H' : Hp} (e : Same H H') : ∀ {vs : List V} {ds : List PyData}, DpAll K H vs ds → DpAll K H' vs ds
  | _, _, .nil => .nil
  | _, _, .cons h a => .cons (Dp.same e h) (DpAll.same e a)
end
theorem dp_ints {K : PySem.W.Frag} {H : Hp} : ∀ ns : List Int, DpAll K H (ns.map V.int) (ns.map PyData.int)
  | [] => .nil
  | n :: ns => .cons (.int n) (dp_ints ns)
/-- what a list, a tuple of ints is, as data -/
abbrev dTup (ns : List Int) : PyData := .tuple (ns.map .int)
abbrev dLst (ns : List Int) : PyData := .list (ns.map .int)
theorem dp_tup {K : PySem.W.Frag} {H : Hp} {a : Addr} {ns : List Int} (h : SqT K H a (ns.map V.int)) : Dp K H (.ref a) (dTup ns) := .tup h (dp_ints ns)
theorem dp_lst {K : PySem.W.Frag} {H : Hp} {a : Addr} {ns : List Int} (h : SqL K H a (ns.map V.int)) : Dp K H (.ref a) (dLst ns) := .lst h (dp_ints ns)
theorem eqv_ints : ∀ ns ms : List Int, PyData.eqvAll (ns.map PyData.int) (ms.map PyData.int) = decide (ns = ms)
  | [], [] => by simp [PyData.eqvAll]
  | [], _ :: _ => by simp [PyData.eqvAll]
  | _ :: _, [] => by simp [PyData.eqvAll]
  | n :: ns, m :: ms => by
    have ih := eqv_ints ns ms
    simp only [List.map_cons, PyData.eqvAll, PyData.eqv, ih, List.cons.injEq, Bool.decide_and]
    congr 1
theorem eqv_tup (ns ms : List Int) : PyData.eqv (dTup ns) (dTup ms) = decide (ns = ms) := by
  simp only [PyData.eqv, eqv_ints]
end G0

namespace G0
open PySem PySem.Spec PyProof.Rows L2
/-! ### data whose text is short enough -/
mutual
def szD : PyData → Nat
  | .none => 5
  | .bool _ => 5
  | .int _ => 1930
  | .str x => (reprText x).length
  | .list xs => szAll xs + 3
  | .tuple xs => szAll xs + 3
  | .dict _ => 0
def szAll : List PyData → Nat
  | [] => 0
  | x :: xs => szD x + 2 + szAll xs
end
theorem list_text (ts : List Str) : (listText ts).length ≤ piled ts + 2 := by
  unfold listText
  rw [strLen_append]
  have e1 : ((("[" : String) : Str)).length = 1 := rfl
  have e2 : ((("]" : String) : Str)).length = 1 := rfl
  cases ts with
  | nil =>
    show (("[" : String) : Str).length + _ ≤ _
    omega
  | cons t r =>
    show (textFrom 1 ((("[" : String) : Str) ++ ((if 0 > 0 then ", " else "" : String) : Str) ++ t) r).length + _ ≤ _
    have e3 : (((if 0 > 0 then ", " else "" : String) : Str)).length = 0 := rfl
    rw [textFrom_length_pos _ _ _ Nat.one_pos, strLen_append, strLen_append, piled_cons]
    omega
mutual
theorem shown_le : ∀ d : PyData, d.showable = true → d.hasDict = false → d.shown.length ≤ szD d
  | .none, _, _ => by
    simp only [PyData.shown, szD]
    decide
  | .bool b, _, _ => by
    cases b <;> simp only [PyData.shown, szD] <;> decide
  | .int i, h, _ => by
    simp only [PyData.shown, szD]
    simp only [PyData.showable, decide_eq_true_eq] at h
    have e := int_text_length_le (k := 1920) (by decide) h
    have e2 : ((toString i : String) : Str).length = (toString i).length := PySem.ofString_length _
    omega
  | .str x, _, _ => by
    simp only [PyData.shown, szD]
    exact Nat.le_refl _
  | .list xs, h, n => by
    simp only [PyData.showable] at h
    simp only [PyData.hasDict] at n
    simp only [PyData.shown, szD]
    have e1 := list_text (PyData.shownAll xs)
    have e2 := shownAll_le xs h n
    omega
  | .tuple xs, h, n => by
    simp only [PyData.showable] at h
    simp only [PyData.hasDict] at n
    simp only [PyData.shown, szD]
    have e1 := fmt_text (PyData.shownAll xs)
    have e2 := shownAll_le xs h n
    omega
  | .dict _, _, n => by
    simp only [PyData.hasDict] at n
    cases n
theorem shownAll_le : ∀ xs : List PyData, PyData.showableAll xs = true → PyData.hasDictAll xs = false → piled (PyData.shownAll xs) ≤ szAll xs
  | [], _, _ => by
    simp only [PyData.shownAll, szAll, piled_nil]
    exact Nat.le_refl _
  | x :: xs, h, n => by
    simp only [PyData.showableAll, Bool.and_eq_true] at h
    simp only [PyData.hasDictAll, Bool.or_eq_false_iff] at n
    have e1 := shown_le x h.1 n.1
    have e2 := shownAll_le xs h.2 n.2
    simp only [PyData.shownAll, szAll, piled_cons]
    omega
end
/-- short data, no dict in it: its repr is known -/
structure Fine (d : PyData) : Prop where
  sh : d.showable = true
  nd : d.hasDict = false
  dep : d.depth ≤ 16
  sz : szD d ≤ 10000000
theorem Fine.fit {d : PyData} (h : Fine d) : d.shown.length ≤ sizeLine := by
  have e := shown_le d h.sh h.nd
  have := h.sz
  rw [sizeLine_eq]
  omega
/-- a list of fine ones, no more than 4000 of them, deep and long as told -/
structure FineAll (ds : List PyData) (dep sz : Nat) : Prop where
  sh : PyData.showableAll ds = true
  nd : PyData.hasDictAll ds = false
  dep : PyData.depthAll ds ≤ dep
  sz : szAll ds ≤ sz
theorem FineAll.nil {dep sz : Nat} : FineAll [] dep sz := ⟨by simp only [PyData.showableAll], by simp only [PyData.hasDictAll], by simp only [PyData.depthAll]; exact Nat.zero_le _, by simp only [szAll]; exact Nat.zero_le _⟩
theorem FineAll.cons {d : PyData} {ds : List PyData} {dep s1 s2 : Nat} (h1 : d.showable = true) (h2 : d.hasDict = false) (h3 : d.depth ≤ dep) (h4 : szD d ≤ s1) (h : FineAll ds dep s2) : FineAll (d :: ds) dep (s1 + 2 + s2) := by
  refine ⟨?_, ?_, ?_, ?_⟩
  · simp only [PyData.showableAll, h1, h.sh, Bool.and_self]
  · simp only [PyData.hasDictAll, h2, h.nd, Bool.or_self]
  · simp only [PyData.depthAll]
    exact Nat.max_le.mpr ⟨h3, h.dep⟩
  · simp only [szAll]
    have := h.sz
    omega
theorem small_log {i : Int} (h : i.natAbs < 2 ^ 1919) : i.natAbs.log2 < 1920 := by
  by_cases e : i.natAbs = 0
  · rw [e]
    decide
  · exact (Nat.log2_lt e).mpr (Nat.lt_trans h (by decide +kernel))
/-- ints of up to 1900 bits -/
def Sm (ns : List Int) : Prop := ∀ n ∈ ns, n.natAbs < 2 ^ 1919
theorem fine_ints : ∀ {ns : List Int}, Sm ns → FineAll (ns.map PyData.int) 0 (1932 * ns.length)
  | [], _ => .nil
  | n :: ns, h => by
    have ih := fine_ints (ns := ns) fun m hm => h m (List.mem_cons_of_mem _ hm)
    have e := FineAll.cons (d := .int n) (dep := 0) (s1 := 1930) (by simp only [PyData.showable, decide_eq_true_eq]; exact small_log (h n List.mem_cons_self)) (by simp only [PyData.hasDict]) (by simp only [PyData.depth]; exact Nat.le_refl _) (by simp only [szD]; exact Nat.le_refl _) ih
    refine ⟨e.sh, e.nd, e.dep, Nat.le_trans e.sz ?_⟩
    rw [List.length_cons]
    omega
theorem Fine.tup {ds : List PyData} {dep sz : Nat} (h : FineAll ds dep sz) (h1 : dep ≤ 15) (h2 : sz + 3 ≤ 10000000) : Fine (.tuple ds) := by
  refine ⟨by simp only [PyData.showable]; exact h.sh, by simp only [PyData.hasDict]; exact h.nd, ?_, ?_⟩
  · have := h.dep
    simp only [PyData.depth]
    omega
  · have := h.sz
    simp only [szD]
    omega
theorem Fine.lst {ds : List PyData} {dep sz : Nat} (h : FineAll ds dep sz) (h1 : dep ≤ 15) (h2 : sz + 3 ≤ 10000000) : Fine (.list ds) := by
  refine ⟨by simp only [PyData.showable]; exact h.sh, by simp only [PyData.hasDict]; exact h.nd, ?_, ?_⟩
  · have := h.dep
    simp only [PyData.depth]
    omega
  · have := h.sz
    simp only [szD]
    omega
theorem fine_tup {ns : List Int} (h : Sm ns) (l : ns.length ≤ 5000) : Fine (dTup ns) := .tup (fine_ints h) (by decide) (by omega)
theorem fine_lst {ns : List Int} (h : Sm ns) (l : ns.length ≤ 5000) : Fine (dLst ns) := .lst (fine_ints h) (by decide) (by omega)
/-- repr of fine data -/
def rReprF (K : PySem.W.Frag) : List V → Hp → VK → Prop := fun xs H Q => ∃ (a : Addr) (d : PyData), xs = [.ref a] ∧ Dp K H (.ref a) d ∧ Fine d ∧ Q (.str d.shown) H
theorem call_repr {X : Cx} (gd : X.A.guards = some []) (hu : X.A.units + 64 < cLine) : CallR X (.builtin "repr") (rReprF X.K) := by
  intro pn s σ H xs us Q J rv h
  obtain ⟨a, d, e, dp, f, q⟩ := h
  exact cr_repr gd hu pn s σ H xs us Q J rv ⟨a, d, e, dp, f.sh, f.nd, f.dep, f.fit, q⟩
end G0

namespace G0
open PySem PySem.Spec PyProof.Rows L2
/-! ### comprehensions that only add: an item x gives what F says, or nothing -/
def fm (F : V → Option V) (xs : List V) : List V := xs.filterMap F
theorem fm_succ {F : V → Option V} {xs : List V} {i : Nat} {x : V} (h : xs[i]? = some x) : fm F (xs.take (i + 1)) = fm F (xs.take i) ++ (match F x with | some y => [y] | none => []) := by
  unfold fm
  rw [List.take_add_one, h, List.filterMap_append]
  congr 1
  simp only [Option.toList]
  cases e : F x <;> simp [e]
theorem fm_len (F : V → Option V) (xs : List V) (i : Nat) : (fm F (xs.take i)).length ≤ xs.length :=
  Nat.le_trans (List.length_filterMap_le ..) (by rw [List.length_take]; exact Nat.min_le_right _ _)
section
variable {K : PySem.W.Frag} {a : Addr} {xs : List V} {g : TG} {tt : TT} {te : TE} {vs : List Nat} {σ : L2.St} {H1 : Hp} {D : Addr} {Qd : Hp → Prop}
/-- one turn, whatever follows -/
def Turn1 (g : TG) (tt : TT) (te : TE) (vs : List Nat) (σ : L2.St) (F : V → Option V) (x : V) (H : Hp) : Prop :=
  ∀ (G : V → Hp → Prop) (N : Hp → Prop), (F x = none → ∀ H', Same H H' → N H') → (∀ y, F x = some y → ∀ H', Same H H' → G y H') → g x (wipe σ vs) H fun σ2 H2 => wipe σ2 vs = wipe σ vs ∧ tt σ2 H2 fun b H3 => if b = true then te σ2 H3 G else N H3
theorem turn_fm {n : Nat} (F : V → Option V) (hn : xs.length < sizeLine) {i : Nat} {x : V} {H : Hp} {N1 : Hp → Prop} (hx : xs[i]? = some x) (hsame : Same H1 H) (hD1 : H1 D = none) (hD : H D = some (.lst (fm F (xs.take i)))) (t : Turn1 g tt te vs σ F x H)
    (nx : ∀ H', Same H1 H' → H' D = some (.lst (fm F (xs.take (i + 1)))) → N1 H') :
    g x (wipe σ vs) H fun σ2 H2 => wipe σ2 vs = wipe σ vs ∧ tt σ2 H2 fun b H3 => if b = true then te σ2 H3 fun y H4 => ∃ acc, H4 D = some (.lst acc) ∧ acc.length < sizeLine ∧ N1 (upd H4 D (.lst (acc ++ [y]))) else N1 H3 := by
  refine t _ _ (fun e H' s => ?_) (fun y e H' s => ?_)
  · refine nx H' (hsame.trans s) ?_
    rw [fm_succ hx, e, List.append_nil]
    exact s _ _ hD
  · refine ⟨_, s _ _ hD, Nat.lt_of_le_of_lt (fm_len F xs i) hn, nx _ (fun b o eb => ?_) ?_⟩
    · rw [upd_ne (ne_of_none eb hD1)]
      exact s _ _ (hsame _ _ eb)
    · rw [upd_same, fm_succ hx, e]
theorem lcL (F : V → Option V) (hl : SqL K H1 a xs) (hn : xs.length < sizeLine) (hD : H1 D = none) (t : ∀ x, x ∈ xs → ∀ H, Same H1 H → Turn1 g tt te vs σ F x H) (hd : ∀ H, Same H1 H → H D = some (.lst (fm F xs)) → Qd H) :
    ∃ W : Nat → Nat → Hp → Prop, (∃ m, W 0 m (upd H1 D (.lst []))) ∧ ∀ i m H, W i m H →
      ((Itl K a).stop i H ∧ Qd H) ∨ ((Itl K a).go i H ∧ ∃ Nx : Hp → Prop, (∀ H', Nx H' → ∃ m', m' < m ∧ W (i + 1) m' H') ∧ ∀ x H', (Itl K a).yld i H x H' → g x (wipe σ vs) H' fun σ2 H2 => wipe σ2 vs = wipe σ vs ∧ tt σ2 H2 fun b H3 =>
        if b = true then te σ2 H3 fun y H4 => ∃ acc, H4 D = some (.lst acc) ∧ acc.length < sizeLine ∧ Nx (upd H4 D (.lst (acc ++ [y]))) else Nx H3) :=
  lc_list (xs := xs) (fun i H => Same H1 H ∧ H D = some (.lst (fm F (xs.take i)))) ⟨same_new hD, upd_same⟩ (fun _ _ _ h => h.1.seq hl)
    (fun i x H hx h => turn_fm (n := 0) F hn hx h.1 hD h.2 (t x (List.mem_of_getElem? hx) H h.1) fun H' s d => ⟨s, d⟩) (fun H h => hd H h.1 (by rw [h.2, List.take_length]))
theorem lcT (F : V → Option V) (hl : SqT K H1 a xs) (hn : xs.length < sizeLine) (hD : H1 D = none) (t : ∀ x, x ∈ xs → ∀ H, Same H1 H → Turn1 g tt te vs σ F x H) (hd : ∀ H, Same H1 H → H D = some (.lst (fm F xs)) → Qd H) :
    ∃ W : Nat → Nat → Hp → Prop, (∃ m, W 0 m (upd H1 D (.lst []))) ∧ ∀ i m H, W i m H →
      ((Itt K a).stop i H ∧ Qd H) ∨ ((Itt K a).go i H ∧ ∃ Nx : Hp → Prop, (∀ H', Nx H' → ∃ m', m' < m ∧ W (i + 1) m' H') ∧ ∀ x H', (Itt K a).yld i H x H' → g x (wipe σ vs) H' fun σ2 H2 => wipe σ2 vs = wipe σ vs ∧ tt σ2 H2 fun b H3 =>
        if b = true then te σ2 H3 fun y H4 => ∃ acc, H4 D = some (.lst acc) ∧ acc.length < sizeLine ∧ Nx (upd H4 D (.lst (acc ++ [y]))) else Nx H3) :=
  lc_tup (xs := xs) (fun i H => Same H1 H ∧ H D = some (.lst (fm F (xs.take i)))) ⟨same_new hD, upd_same⟩ (fun _ _ _ h => same_t h.1 hl)
    (fun i x H hx h => turn_fm (n := 0) F hn hx h.1 hD h.2 (t x (List.mem_of_getElem? hx) H h.1) fun H' s d => ⟨s, d⟩) (fun H h => hd H h.1 (by rw [h.2, List.take_length]))
end
theorem fm_map (f : V → V) : ∀ xs : List V, fm (fun x => some (f x)) xs = xs.map f
  | [] => rfl
  | x :: xs => by
    show f x :: fm _ xs = f x :: xs.map f
    rw [fm_map f xs]
/-- types of what stands in lists and tuples -/
theorem ty_l {K : PySem.W.Frag} {H : Hp} {a : Addr} {xs : List V} (h : SqL K H a xs) : TyX K H (.ref a) (.type "list") := by
  rcases h with (h | ⟨o, h⟩) | h
  · exact .base (.lst h)
  · exact .base (.frz h)
  · obtain ⟨o, its, n, hk, hc, _⟩ := h
    exact .kList hk hc
theorem ty_t {K : PySem.W.Frag} {H : Hp} {a : Addr} {xs : List V} (h : SqT K H a xs) : TyX K H (.ref a) (.type "tuple") := by
  rcases h with (h | ⟨o, h⟩) | h
  · exact .base (.tup h)
  · exact .fTuple h
  · obtain ⟨o, its, n, hk, hc, _⟩ := h
    exact .kTuple hk hc
end G0

namespace G0
open PySem PySem.Spec PyProof.Rows L2
/-! ### any(xs), xs ints in a list or a tuple -/
theorem truths {prog : Program} {w : World} {A : Around} : ∀ {ns : List Int} {its : List Value}, Vals (ns.map V.int) its → TruthOf prog w A (fun i v => its.toArray[i]? = some v) (fun i => ns.getD i 0 != 0) := by
  intro ns its rv i v s Q E hv hq
  have hv' : its[i]? = some v := by simpa using hv
  have look : ∀ {ms : List Int} {us : List Value} {j : Nat}, Vals (ms.map V.int) us → us[j]? = some v → ∃ n t, ms[j]? = some n ∧ v = .int n t := by
    intro ms
    induction ms with
    | nil =>
      intro us j r h
      cases r
      cases h
    | cons m ms ih =>
      intro us j r h
      cases r with
      | cons r1 r2 =>
        cases j with
        | zero =>
          obtain ⟨t, rfl⟩ := r1
          cases h
          exact ⟨m, t, rfl, rfl⟩
        | succ j => exact ih r2 h
  obtain ⟨n, t, hn, rfl⟩ := look rv hv'
  have hg : ns.getD i 0 = n := by
    rw [List.getD_eq_getElem?_getD, hn]
    rfl
  have hq2 : Q (ns.getD i 0 != 0) s := hq
  rw [hg] at hq2
  exact PyProof.Rows.truthy_int hq2
theorem any_ints : ∀ ns : List Int, ((List.range ns.length).any fun i => ns.getD i 0 != 0) = ns.any fun n => n != 0
  | [] => rfl
  | n :: ns => by
    rw [List.length_cons, List.range_succ_eq_map, List.any_cons, List.any_map, List.any_cons, ← any_ints ns]
    all_goals rfl
section
variable {X : Cx}
def rAnyI (K : PySem.W.Frag) : List V → Hp → VK → Prop := fun vs H Q => ∃ (a : Addr) (ns : List Int), vs = [V.ref a] ∧ Sq K H a (ns.map V.int) ∧ Q (.bl (ns.any fun n => n != 0)) H
theorem cr_anyI (calm : X.calm = true) : CallR X (.builtin "any") (rAnyI X.K) := by
  intro pn s σ H vs us Q J r h
  obtain ⟨a, ns, rfl, hs, q⟩ := h
  rw [Vals.ref1 r]
  rcases hs with hs | hs
  · obtain ⟨its, rv, hl, _⟩ := J.list hs
    have lv := rv.length
    refine call_any_walk (iter_any hl.isList fun s2 e2 st hne => ?_)
    subst e2
    refine ⟨_, _, _, _, _, _, _, rfl, Walks.list (A := X.A.in1) (J.ok.hd calm) _ a hne its.toArray, st, truths rv, fun h2 tk hk => ?_⟩
    refine ⟨.bl _, H, J.kept fun b o eo => hk b o (fun mem => ?_) (Heap.get?_push_of_some _ eo), ?_, q⟩
    · rcases List.mem_cons.mp mem with e1 | mem
      · exact absurd (e1 ▸ Heap.lt_size eo) (Nat.lt_irrefl _)
      · cases mem
    · rw [List.size_toArray, ← lv, List.length_map, any_ints]
      rfl
  · obtain ⟨its, rv, hl, _⟩ := J.tuple hs
    have lv := rv.length
    obtain ⟨o1, ho1, hc1, n1, hd1⟩ := hl
    have hT : s.heap.IsTuple a its.toArray := ⟨o1, ho1, hc1, n1, hd1⟩
    have hlt : a < s.heap.objs.size := Heap.lt_size ho1
    refine call_any_walk (wpAny_pyIter_tuple hT ?_)
    refine ⟨_, _, _, _, _, _, _, rfl, Walks.tuple (A := X.A.in1) (J.ok.hd calm) _ a (Nat.ne_of_lt hlt) its.toArray, ⟨⟨_, Heap.get?_push_size _ rfl, rfl, rfl⟩, hT.push _⟩, truths rv, fun h2 tk hk => ?_⟩
    refine ⟨.bl _, H, J.kept fun b o eo => hk b o (fun mem => ?_) (Heap.get?_push_of_some _ eo), ?_, q⟩
    · rcases List.mem_cons.mp mem with e1 | mem
      · exact absurd (e1 ▸ Heap.lt_size eo) (Nat.lt_irrefl _)
      · cases mem
    · rw [List.size_toArray, ← lv, List.length_map, any_ints]
      rfl
end
end G0

namespace G0
open PySem PySem.Spec PyProof.Rows L2
/-! ### walks over a list (true) or a tuple (false): enumerate, zip of two, of three -/
def SqK (b : Bool) (K : PySem.W.Frag) (H : Hp) (a : Addr) (xs : List V) : Prop := match b with | true => SqL K H a xs | false => SqT K H a xs
theorem Sq.kind {K : PySem.W.Frag} {H : Hp} {a : Addr} {xs : List V} (h : Sq K H a xs) : ∃ b, SqK b K H a xs := h.elim (fun h => ⟨true, h⟩) (fun h => ⟨false, h⟩)
theorem SqK.sq {b : Bool} {K : PySem.W.Frag} {H : Hp} {a : Addr} {xs : List V} (h : SqK b K H a xs) : Sq K H a xs := by
  cases b with
  | true => exact .inl h
  | false => exact .inr h
theorem SqK.same {b : Bool} {K : PySem.W.Frag} {H H' : Hp} {a : Addr} {xs : List V} (e : Same H H') (h : SqK b K H a xs) : SqK b K H' a xs := by
  cases b with
  | true => exact e.seq h
  | false => exact same_t e h
def IterK (b : Bool) (h : Heap) (it a : Addr) (i : Nat) : Prop := match b with | true => h.IsListIter it a i | false => h.IsTupleIter it a i
def IsK (b : Bool) (h : Heap) (a : Addr) (items : Array Value) : Prop := match b with | true => h.IsList a items | false => h.IsTuple a items
def iterO (b : Bool) (a : Addr) : Obj := match b with
  | true => { cls := .type "list_iterator", data := .fields #[.ref a, .int 0 0] }
  | false => { cls := .type "tuple_iterator", data := .fields #[.ref a, .int 0 0] }
theorem draw_K {prog : Program} {w : World} {A : Around} (calm : A.handled = none) (b : Bool) (it a : Addr) (ne : a ≠ it) (items : Array Value) :
    Draws prog w A it [it, a] items.size (fun i v => items[i]? = some v) (fun i h => IterK b h it a i ∧ IsK b h a items) := by
  cases b with
  | true => exact Draws.list calm it a ne items
  | false => exact Draws.tuple calm it a ne items
theorem begin_K (b : Bool) (a : Addr) (items : Array Value) : Begins (.ref a) (iterO b a) fun h => IsK b h a items := by
  cases b with
  | true => exact begins_list a items
  | false => exact begins_tuple a items
theorem iter_K {b : Bool} {h : Heap} {it a : Addr} (e : h.get? it = some (iterO b a)) : IterK b h it a 0 := by
  cases b with
  | true => exact ⟨_, e, rfl, rfl⟩
  | false => exact ⟨_, e, rfl, rfl⟩
theorem IterK.obj {b : Bool} {h : Heap} {it a : Addr} {i : Nat} (e : IterK b h it a i) : ∃ o, h.get? it = some o ∧ ∀ v, o.data ≠ .cell v := by
  cases b with
  | true =>
    obtain ⟨o, h1, _, h3⟩ := (show h.IsListIter it a i from e)
    exact ⟨o, h1, fun v q => by rw [h3] at q; cases q⟩
  | false =>
    obtain ⟨o, h1, _, h3⟩ := (show h.IsTupleIter it a i from e)
    exact ⟨o, h1, fun v q => by rw [h3] at q; cases q⟩
theorem IterK.keep {b : Bool} {h h' : Heap} {it a : Addr} {i : Nat} (e : IterK b h it a i) (k : ∀ o, h.get? it = some o → h'.get? it = some o) : IterK b h' it a i := by
  cases b with
  | true =>
    obtain ⟨o, h1, h2, h3⟩ := (show h.IsListIter it a i from e)
    exact ⟨o, k o h1, h2, h3⟩
  | false =>
    obtain ⟨o, h1, h2, h3⟩ := (show h.IsTupleIter it a i from e)
    exact ⟨o, k o h1, h2, h3⟩
section
variable {X : Cx} {pins : List (Addr × Obj)} {σ : L2.St} {H : Hp} {s : Shared}
theorem seq_K {b : Bool} {a : Addr} {xs : List V} (J : Inv X pins σ H s) (h : SqK b X.K H a xs) : ∃ its : List Value, Vals xs its ∧ IsK b s.heap a its.toArray ∧ a < s.heap.objs.size := by
  cases b with
  | true =>
    obtain ⟨its, rv, pl, _⟩ := J.list h
    obtain ⟨o, h1, h2⟩ := pl.isList
    exact ⟨its, rv, pl.isList, Heap.lt_size h1⟩
  | false =>
    obtain ⟨its, rv, ⟨o, h1, h2, n, h3⟩, _⟩ := J.tuple h
    exact ⟨its, rv, ⟨o, h1, h2, n, h3⟩, Heap.lt_size h1⟩
theorem inj_K {b : Bool} {a : Addr} {xs ys : List V} (J : Inv X pins σ H s) (h1 : SqK b X.K H a xs) (h2 : SqK b X.K H a ys) : xs = ys := by
  cases b with
  | true => exact J.list_inj h1 h2
  | false => exact J.tuple_inj h1 h2
/-- the i-th item of what stands at a -/
theorem item_K {b : Bool} {a : Addr} {xs : List V} {its : List Value} {i : Nat} {u : Value} {x : V} (rv : Vals xs its) (hu : its.toArray[i]? = some u) (hx : xs[i]? = some x) : RelV x u := by
  obtain ⟨u', hu', ru⟩ := rv.get hx
  have : its[i]? = some u := by simpa using hu
  rw [this] at hu'
  cases hu'
  exact ru
end
/-- enumerate -/
def ItE (b : Bool) (K : PySem.W.Frag) (a : Addr) : It :=
  ⟨fun i H => ∃ (xs : List V) (x : V), SqK b K H a xs ∧ xs[i]? = some x, fun i H v H' => ∃ T x, v = .ref T ∧ H T = none ∧ H' = upd H T (.tup [.int (i : Nat), x]) ∧ ∀ xs, SqK b K H a xs → xs[i]? = some x, fun i H => ∃ xs : List V, SqK b K H a xs ∧ xs.length = i⟩
theorem turn_E {P : Program} {w : World} {K : PySem.W.Frag} {elts : List Expr} {kk : Nat} {tpos : Pos} (b : Bool) (a e it : Addr) (hae : a ≠ e) (hai : a ≠ it) (hei : e ≠ it) :
    Turn P w K (.Tuple elts kk tpos) (ItE b K a) [e, it] e (fun i h => (∃ old, IsEnum h e it ((i : Nat) : Int) old) ∧ IterK b h it a i) where
  mem := by simp
  obj := fun i h st c mem => by
    obtain ⟨⟨old, he⟩, hi⟩ := st
    rcases List.mem_cons.mp mem with q | mem
    · rw [q]
      exact ⟨_, he, fun v z => nomatch z⟩
    · rw [List.mem_singleton.mp mem]
      exact hi.obj
  keep := fun i h h' st k => by
    obtain ⟨⟨old, he⟩, hi⟩ := st
    exact ⟨⟨old, k e (by simp) _ he⟩, hi.keep (k it (by simp))⟩
  item := by
    rintro X rfl rfl rfl hc i pins s σ H E J hf ⟨⟨old, he⟩, hit⟩ ⟨xs, x, hq, hx⟩
    obtain ⟨its, rv, isK, alt⟩ := seq_K J hq
    have elt : e < s.heap.objs.size := Heap.lt_size he
    have ilt : it < s.heap.objs.size := by
      obtain ⟨_, q, _⟩ := hit.obj
      exact Heap.lt_size q
    have len := rv.length
    have ib : i < its.toArray.size := by
      have := (List.getElem?_eq_some_iff.mp hx).1
      simp
      omega
    refine wpAny_pyNext_enum_itemD (draw_K (A := X.A.in1) (J.ok.hd hc) b it a hai its.toArray) he ⟨hit, isK⟩ ib hei (by simp [hei, hae.symm]) fun u h2 tk hu out st2 hT hsz kept => ?_
    refine ⟨_, rfl, wpAny_letOwnedTupleGo_enum (s := { s with heap := h2, toks := tk + 1 }) out fun h3 he3 but => ?_⟩
    have hT3 : h3.get? s.heap.objs.size = some { cls := .type "tuple", data := .seq #[.int i tk, u] } := (but.2 _ (Nat.ne_of_gt elt)).trans hT
    have ru : RelV x u := item_K (b := b) (a := a) rv hu hx
    have fresh : ObjOk X.prog X.w (upd H s.heap.objs.size (.tup [.int (i : Nat), x])) h3 s.heap.objs.size (.tup [.int (i : Nat), x]) :=
      ⟨by show 2 ≤ sizeLine; decide, [.int i tk, u], .cons ⟨_, rfl⟩ (.cons ru .nil), ⟨_, hT3, rfl, _, rfl⟩⟩
    have J3 : Inv X pins σ (upd H s.heap.objs.size (.tup [.int (i : Nat), x])) { s with heap := h3, toks := tk + 1 } :=
      J.turnedNew (ch := [e, it]) (fun c o no q => (but.2 c (fun z => no (by simp [z]))).trans (kept c o (fun z => no (by simp [z])) (fun z => no (by simp [z])) q)) hf (Nat.le_refl _) fresh
    refine ⟨.ref s.heap.objs.size, _, J3, rfl, ⟨_, x, rfl, J.hok.fresh (Nat.le_refl _), rfl, fun ys hy => by rw [inj_K J hy hq]; exact hx⟩, ⟨⟨u, ?_⟩, st2.1.keep fun o q => (but.2 it hei.symm).trans q⟩, fun c mem => ?_⟩
    · have e1 : ((i + 1 : Nat) : Int) = (i : Int) + 1 := by omega
      rw [e1]
      exact he3
    · have lt : c < s.heap.objs.size := by
        rcases List.mem_cons.mp mem with q | mem2
        · rw [q]
          exact elt
        · rw [List.mem_singleton.mp mem2]
          exact ilt
      rw [upd_ne (Nat.ne_of_lt lt)]
      exact (hf c mem).1
  done := by
    rintro X rfl rfl rfl hc i pins s σ H E J hf ⟨⟨old, he⟩, hit⟩ ⟨xs, hq, rfl⟩
    obtain ⟨its, rv, isK, alt⟩ := seq_K J hq
    have len := rv.length
    have es : its.toArray.size = xs.length := by
      rw [List.size_toArray]
      omega
    refine wpAny_pyNext_enum_endD (draw_K (A := X.A.in1) (J.ok.hd hc) b it a hai its.toArray) he (by rw [es]; exact ⟨hit, isK⟩) fun h2 but => ⟨rfl, ?_⟩
    obtain ⟨f0, f1, f2, f3, f4, f5⟩ := hf it (by simp)
    exact J.turned (t' := s.toks) (fun c o no q => but c o no q) f0 f1 f3 f4 f5
  self := fun A i s Q E st h => by
    obtain ⟨⟨_, he⟩, _⟩ := st
    exact wpAny_pyIter_enum he h
theorem enum_new_T {t : Addr} {items : Array Value} : Meets (Builtin.«enumerate.__new__» ⟨[.type "enumerate", .ref t], []⟩) (fun _ R s => s.heap.IsTuple t items ∧
      R (.ok (.ret (.ref (s.heap.push (iterO false t)).objs.size))) { s with heap := (s.heap.push (iterO false t)).push { cls := .type "enumerate", data := .fields #[.none, .bool false, .ref s.heap.objs.size, rawInt 0, .none, .none] } }) := by
  refine .of_wp ?_
  rintro prog w A R ⟨hp, gs, dr, tk, os⟩ ⟨isT, want⟩
  have sub := sub_enumerate
  have it1 : ∀ {A' : Around} {E : Value → Shared → Prop} {Q : Value → Shared → Prop}, Q (.ref hp.objs.size) ⟨hp.push (iterO false t), gs, dr, tk, os⟩ → wpAny (model prog w) A' (pyIter (.ref t)) Q E ⟨hp, gs, dr, tk, os⟩ :=
    fun q => wpAny_pyIter_tuple isT q
  wp_walk using it1
  apply wpAny_stack_any
  intro st
  apply wpAny_pure
  split
  · rename_i c _ _ _ _ _
    cases (c == Value.type "enumerate")
    · wp_walk using it1
      exact ⟨_, rfl, want⟩
    · wp_walk using it1
      exact ⟨_, rfl, want⟩
  · wp_walk using it1
    exact ⟨_, rfl, want⟩
theorem called_enum {b : Bool} {a : Addr} {items : Array Value} {prog : Program} {w : World} {A : Around} {E : Value → Shared → Prop} {s : Shared} {Q : Value → Shared → Prop} (h1 : IsK b s.heap a items)
    (k : ∀ h2, IsEnum h2 (s.heap.objs.size + 1) s.heap.objs.size 0 .none → IterK b h2 s.heap.objs.size a 0 → h2.objs.size = s.heap.objs.size + 2 → (∀ c o, s.heap.get? c = some o → h2.get? c = some o) → Q (.ref (s.heap.objs.size + 1)) { s with heap := h2 }) :
    wpAny (model prog w) A (call (.type "enumerate") [.ref a]) Q E s := by
  cases b with
  | true => exact call_enumerate_list h1 fun h2 x1 x2 x3 x4 => k h2 x1 x2 x3 x4
  | false =>
    refine callType_new F.called_enumerate (by decide) (F.typeCall_enumerate_1 _) (F.newCall_enumerate_1 _) (fun ob => F.args_object_init_2 ob _) F.entry_enumerate_new enum_new_T ⟨h1, ?_⟩
    have z1 : (s.heap.push (iterO false a)).objs.size = s.heap.objs.size + 1 := Heap.size_push ..
    show _ ∧ _
    rw [z1]
    have gE : IsEnum ((s.heap.push (iterO false a)).push { cls := .type "enumerate", data := .fields #[.none, .bool false, .ref s.heap.objs.size, rawInt 0, .none, .none] }) (s.heap.objs.size + 1) s.heap.objs.size 0 .none := by
      have top1 := Heap.get?_push_size (s.heap.push (iterO false a)) (o := { cls := .type "enumerate", data := .fields #[.none, .bool false, .ref s.heap.objs.size, rawInt 0, .none, .none] }) rfl
      rw [z1] at top1
      exact top1
    refine ⟨⟨_, gE, rfl⟩, k _ gE ?_ ?_ ?_⟩
    · exact iter_K (b := false) (Heap.get?_push_of_some _ (Heap.get?_push_size _ rfl))
    · rw [Heap.size_push, z1]
    · intro c o q
      exact Heap.get?_push_of_some _ (Heap.get?_push_of_some _ q)
/-- enumerate(e) of a list or a tuple -/
def iE (b : Bool) (K : PySem.W.Frag) (ta : TA) : TI := fun σ H R => ta σ H fun vs H1 => ∃ a xs, vs = [.ref a] ∧ SqK b K H1 a xs ∧ R (ItE b K a) H1
theorem pi_E (b : Bool) {X : Cx} {e : Expr} {ta : TA} {p pos tpos : Pos} {elts : List Expr} {kk : Nat} (gl : Gl X "enumerate") (no : X.mg "enumerate" = none) (pa : PA X [e] ta) (st : starEach [e] X.env = [(false, eval e X.env)] := by rfl) :
    PI X (.Tuple elts kk tpos) (.Call (.Name "enumerate" p) [e] [] pos) (iE b X.K ta) := by
  constructor
  intro pins s σ H R J want
  refine Call_ (ld_blt J gl no boot_enumerate (PyProof.Rows.callWith_type1 (thn (pa.run pos pins s σ H _ J want) ?_) st rfl))
  rintro us s1 ⟨vs, H1, J1, r1, a, xs, rfl, hq, q⟩
  obtain ⟨u, rfl, ru⟩ := vals1 r1
  cases ru
  obtain ⟨its, rv, isK, alt⟩ := seq_K J1 hq
  refine called_enum isK fun h2 he hit _ kept => wpAny_pyIter_enum he ?_
  have J2 : Inv X pins σ H1 { s1 with heap := h2 } := J1.kept (t' := s1.toks) kept
  refine ⟨s1.heap.objs.size + 1, [s1.heap.objs.size + 1, s1.heap.objs.size], _, _, H1, rfl, J2, turn_E b a (s1.heap.objs.size + 1) s1.heap.objs.size (Nat.ne_of_lt (Nat.lt_succ_of_lt alt)) (Nat.ne_of_lt alt) (Nat.succ_ne_self _), ⟨⟨.none, he⟩, hit⟩, fun c mem => ?_, q⟩
  have le : s1.heap.objs.size ≤ c := by
    rcases List.mem_cons.mp mem with z | mem2
    · rw [z]
      exact Nat.le_succ _
    · rw [List.mem_singleton.mp mem2]
      exact Nat.le_refl _
  exact J1.fpOk le (J1.hok.fresh le)
theorem walk_E {b : Bool} {K : PySem.W.Frag} {a : Addr} {xs : List V} : Walk (ItE b K a) xs.length (fun H => SqK b K H a xs) (YPair (fun i => some (.int (i : Nat))) (fun i => xs[i]?)) := by
  refine ⟨fun i _ hi q => ⟨xs, xs[i], q, by simp [hi]⟩, fun _ q => ⟨xs, q, rfl⟩, fun i H v H' _ q y => ?_⟩
  obtain ⟨T, x, h1, h2, h3, h4⟩ := y
  exact ⟨T, .int (i : Nat), x, h1, h2, h3, rfl, h4 xs q⟩
end G0

namespace G0
open PySem PySem.Spec PyProof.Rows L2
/-! ### zip of two of one length, each a list (true) or a tuple (false) -/
def ItZ (b1 b2 : Bool) (K : PySem.W.Frag) (a1 a2 : Addr) : It :=
  ⟨fun i H => ∃ (xs ys : List V) (x y : V), SqK b1 K H a1 xs ∧ SqK b2 K H a2 ys ∧ xs[i]? = some x ∧ ys[i]? = some y,
    fun i H v H' => ∃ T x y, v = .ref T ∧ H T = none ∧ H' = upd H T (.tup [x, y]) ∧ (∀ xs, SqK b1 K H a1 xs → xs[i]? = some x) ∧ ∀ ys, SqK b2 K H a2 ys → ys[i]? = some y,
    fun i H => ∃ xs ys : List V, SqK b1 K H a1 xs ∧ SqK b2 K H a2 ys ∧ xs.length = i ∧ ys.length = i⟩
theorem turn_Z {P : Program} {w : World} {K : PySem.W.Frag} {elts : List Expr} {kk : Nat} {tpos : Pos} (b1 b2 : Bool) {a1 a2 z TI TO i1 i2 : Addr} (S : ZipSep2 z TI TO i1 i2 [i1, a1] [i2, a2]) (n1 : a1 ≠ i1) (n2 : a2 ≠ i2) :
    Turn P w K (.Tuple elts kk tpos) (ItZ b1 b2 K a1 a2) [z, TI, TO, i1, i2] z (fun i h => IsZip h z TI TO .none ∧ IsTupOf2 h TI (.ref i1) (.ref i2) ∧ (∃ x y, IsTupOf2 h TO x y) ∧ IterK b1 h i1 a1 i ∧ IterK b2 h i2 a2 i) where
  mem := by simp
  obj := fun i h st c hc => by
    obtain ⟨hz, hTI, ⟨x, y, hTO⟩, h1, h2⟩ := st
    have e' : c = z ∨ c = TI ∨ c = TO ∨ c = i1 ∨ c = i2 := by simpa using hc
    rcases e' with q | q | q | q | q
    · rw [q]; exact ⟨_, hz, fun v q => nomatch q⟩
    · rw [q]; exact ⟨_, hTI, fun v q => nomatch q⟩
    · rw [q]; exact ⟨_, hTO, fun v q => nomatch q⟩
    · rw [q]; exact h1.obj
    · rw [q]; exact h2.obj
  keep := fun i h h' st k => by
    obtain ⟨hz, hTI, ⟨x, y, hTO⟩, h1, h2⟩ := st
    exact ⟨k z (by simp) _ hz, k TI (by simp) _ hTI, ⟨x, y, k TO (by simp) _ hTO⟩, h1.keep (k i1 (by simp)), h2.keep (k i2 (by simp))⟩
  item := by
    rintro X rfl rfl rfl hc i pins s σ H E J hf ⟨hz, hTI, ⟨x0, y0, hTO⟩, h1, h2⟩ ⟨xs, ys, x, y, hqx, hqy, hx, hy⟩
    obtain ⟨its, rv, isK, alt⟩ := seq_K J hqx
    obtain ⟨its2, rv2, isK2, alt2⟩ := seq_K J hqy
    have len := rv.length
    have len2 := rv2.length
    have ib : i < its.toArray.size := by
      have := (List.getElem?_eq_some_iff.mp hx).1
      simp
      omega
    have ib2 : i < its2.toArray.size := by
      have := (List.getElem?_eq_some_iff.mp hy).1
      simp
      omega
    have hzl : z < s.heap.objs.size := Heap.lt_size hz
    refine wpAny_pyNext_zipD2_item S (draw_K (A := X.A.in1) (J.ok.hd hc) b1 i1 a1 n1 its.toArray) (draw_K (A := X.A.in1) (J.ok.hd hc) b2 i2 a2 n2 its2.toArray) hz hTI hTO ⟨h1, isK⟩ ⟨h2, isK2⟩ ib ib2 fun u u2 h' tk hu hu2 z' TO' st1 st2 hT hsz hk => ?_
    refine ⟨_, rfl, wpAny_letOwnedTupleGo_zip (s := { s with heap := h', toks := tk }) z' fun h'' z'' sb => ?_⟩
    have hT2 : h''.get? s.heap.objs.size = some { cls := .type "tuple", data := .seq #[u, u2] } := (sb.2 _ (Nat.ne_of_gt hzl)).trans hT
    have ru : RelV x u := item_K (b := b1) (a := a1) rv hu hx
    have ru2 : RelV y u2 := item_K (b := b2) (a := a2) rv2 hu2 hy
    have new : ObjOk X.prog X.w (upd H s.heap.objs.size (.tup [x, y])) h'' s.heap.objs.size (.tup [x, y]) :=
      ⟨by show 2 ≤ sizeLine; decide, [u, u2], .cons ru (.cons ru2 .nil), ⟨_, hT2, rfl, _, rfl⟩⟩
    have J1 : Inv X pins σ (upd H s.heap.objs.size (.tup [x, y])) { s with heap := h'', toks := tk } :=
      J.turnedNew (t' := tk) (ch := [z, TI, TO, i1, i2]) (fun c o hb q => (sb.2 c (fun q' => hb (by simp [q']))).trans (hk c o (fun q' => hb (by simp [q'])) (fun q' => hb (by simp [q'])) (fun q' => hb (by simp [q'])) (fun q' => hb (by simp [q'])) q)) hf (Nat.le_refl _) new
    refine ⟨.ref s.heap.objs.size, _, J1, rfl, ⟨_, x, y, rfl, J.hok.fresh (Nat.le_refl _), rfl, fun l hl => by rw [inj_K J hl hqx]; exact hx, fun l hl => by rw [inj_K J hl hqy]; exact hy⟩, ⟨z'', ?_, ⟨u, u2, ?_⟩, ?_, ?_⟩, fun c hcm => ?_⟩
    · exact (sb.2 _ S.TIz).trans (hk _ _ S.TIz S.TITO S.TIi1 S.TIi2 hTI)
    · exact (sb.2 _ S.TOz).trans TO'
    · exact st1.1.keep fun o q => (sb.2 _ S.zi1.symm).trans q
    · exact st2.1.keep fun o q => (sb.2 _ S.zi2.symm).trans q
    · have hlt : c < s.heap.objs.size := by
        have e' : c = z ∨ c = TI ∨ c = TO ∨ c = i1 ∨ c = i2 := by simpa using hcm
        rcases e' with q | q | q | q | q
        · rw [q]; exact hzl
        · rw [q]; exact Heap.lt_size hTI
        · rw [q]; exact Heap.lt_size hTO
        · rw [q]; obtain ⟨_, e1, _⟩ := h1.obj; exact Heap.lt_size e1
        · rw [q]; obtain ⟨_, e2, _⟩ := h2.obj; exact Heap.lt_size e2
      rw [upd_ne (Nat.ne_of_lt hlt)]
      exact (hf c hcm).1
  done := by
    rintro X rfl rfl rfl hc i pins s σ H E J hf ⟨hz, hTI, ⟨x0, y0, hTO⟩, h1, h2⟩ ⟨xs, ys, hqx, hqy, l1, l2⟩
    obtain ⟨its, rv, isK, alt⟩ := seq_K J hqx
    obtain ⟨its2, rv2, isK2, alt2⟩ := seq_K J hqy
    have len := rv.length
    have len2 := rv2.length
    have es : its.toArray.size = i := by
      rw [List.size_toArray]
      omega
    have es2 : its2.toArray.size = i := by
      rw [List.size_toArray]
      omega
    exact wpAny_pyNext_zipD2_end S (draw_K (A := X.A.in1) (J.ok.hd hc) b1 i1 a1 n1 its.toArray) (draw_K (A := X.A.in1) (J.ok.hd hc) b2 i2 a2 n2 its2.toArray) hz hTI hTO ⟨h1, isK⟩ ⟨h2, isK2⟩ (Nat.le_of_eq es.symm) (Nat.le_of_eq es2.symm) (.inl es.symm) fun h' tk hk => ⟨rfl, J.turnedL (t' := tk) (ch := [z, TI, TO, i1, i2]) (fun c o hb q =>
      hk c o (fun q' => hb (by simp [q'])) (fun q' => hb (by simp [q'])) (fun q' => hb (by simp [q'])) (fun q' => hb (by simp [q'])) q) hf⟩
  self := fun A i s Q E st h => wpAny_pyIter_zip st.1 h
theorem not_two {x a b : Addr} (h1 : x ≠ a) (h2 : x ≠ b) : x ∉ [a, b] := by
  intro h
  rcases List.mem_cons.mp h with q | q
  · exact h1 q
  · exact h2 (List.mem_singleton.mp q)
theorem up {n k : Nat} (h : 0 < k) : ((n + k : Nat) : Addr) ≠ (n : Addr) := fun e => Nat.ne_of_gt (Nat.lt_add_of_pos_right h) e
theorem upa {n k a : Nat} (h : a < n) : ((n + k : Nat) : Addr) ≠ (a : Addr) := fun e => Nat.ne_of_gt (Nat.lt_of_lt_of_le h (Nat.le_add_right n k)) e
theorem ups {n j k : Nat} (h : j ≠ k) : ((n + j : Nat) : Addr) ≠ ((n + k : Nat) : Addr) := fun e => h (Nat.add_left_cancel e)
theorem zip_sep {n a1 a2 : Nat} (la : a1 < n) (lb : a2 < n) : ZipSep2 (n + 4) (n + 2) (n + 3) n (n + 1) [n, a1] [n + 1, a2] where
  TIz := ups (by decide)
  TOz := ups (by decide)
  TITO := ups (by decide)
  TIi1 := up (by decide)
  mem1 := by simp
  zf1 := not_two (up (by decide)) (upa la)
  Tf1 := not_two (up (by decide)) (upa la)
  TIi2 := ups (by decide)
  mem2 := by simp
  zf2 := not_two (ups (by decide)) (upa lb)
  Tf2 := not_two (ups (by decide)) (upa lb)
  sep1_2 := not_two (up (by decide)).symm (fun e => Nat.ne_of_gt lb e)
  sep2_1 := not_two (up (by decide)) (upa la)
def iZ (b1 b2 : Bool) (K : PySem.W.Frag) (ta : TA) : TI := fun σ H R => ta σ H fun vs H1 => ∃ a1 a2 xs ys, vs = [.ref a1, .ref a2] ∧ SqK b1 K H1 a1 xs ∧ SqK b2 K H1 a2 ys ∧ R (ItZ b1 b2 K a1 a2) H1
theorem pi_Z (b1 b2 : Bool) {X : Cx} {e e2 : Expr} {ta : TA} {p pos tpos : Pos} {elts : List Expr} {kk : Nat} (hg : Gl X "zip") (hm : X.mg "zip" = none) (ha : PA X [e, e2] ta)
    (hs : starEach [e, e2] X.env = (false, eval e X.env) :: starEach [e2] X.env := by rfl) (hpl : (backTo pos (starEach [e2] X.env)).any (·.1) = false := by rfl) :
    PI X (.Tuple elts kk tpos) (.Call (.Name "zip" p) [e, e2] [] pos) (iZ b1 b2 X.K ta) := by
  refine ⟨fun pins s σ H R I h => ?_⟩
  refine Call_ (ld_blt I hg hm PyProof.Rows.boot_zip (PyProof.Rows.callWith_type1 (thn (ha.run pos pins s σ H _ I h) fun us s1 ⟨vs, H1, I1, r1, q1⟩ => ?_) hs hpl))
  obtain ⟨a1, a2, xs, ys, rfl, hqx, hqy, q⟩ := q1
  cases r1 with
  | cons r rr =>
    cases rr with
    | cons r' rr =>
      cases rr
      cases r
      cases r'
      obtain ⟨its, rv, isK, la⟩ := seq_K I1 hqx
      obtain ⟨its2, rv2, isK2, lb⟩ := seq_K I1 hqy
      refine zip_begins2 (begin_K b1 a1 its.toArray) (begin_K b2 a2 its2.toArray) isK isK2 fun h' hz hTI hTO h1 h2 hsz hk => wpAny_pyIter_zip hz ?_
      have I2 : Inv X pins σ H1 { s1 with heap := h' } := I1.kept (t' := s1.toks) hk
      have S : ZipSep2 (s1.heap.objs.size + 4) (s1.heap.objs.size + 2) (s1.heap.objs.size + 3) s1.heap.objs.size (s1.heap.objs.size + 1) [s1.heap.objs.size, a1] [s1.heap.objs.size + 1, a2] := by
        exact zip_sep la lb
      refine ⟨s1.heap.objs.size + 4, [s1.heap.objs.size + 4, s1.heap.objs.size + 2, s1.heap.objs.size + 3, s1.heap.objs.size, s1.heap.objs.size + 1], _, _, H1, rfl, I2, turn_Z b1 b2 S (Nat.ne_of_lt la) (Nat.ne_of_lt (Nat.lt_succ_of_lt lb)), ⟨hz, hTI, ⟨_, _, hTO⟩, iter_K h1, iter_K h2⟩, fun c hcm => ?_, q⟩
      have e' : c = s1.heap.objs.size + 4 ∨ c = s1.heap.objs.size + 2 ∨ c = s1.heap.objs.size + 3 ∨ c = s1.heap.objs.size ∨ c = s1.heap.objs.size + 1 := by simpa using hcm
      have hle : s1.heap.objs.size ≤ c := by
        rcases e' with q | q | q | q | q
        · rw [q]; exact Nat.le_add_right _ _
        · rw [q]; exact Nat.le_add_right _ _
        · rw [q]; exact Nat.le_add_right _ _
        · rw [q]; exact Nat.le_refl _
        · rw [q]; exact Nat.le_add_right _ _
      exact I1.fpOk hle (I1.hok.fresh hle)
theorem walk_Z {b1 b2 : Bool} {K : PySem.W.Frag} {a1 a2 : Addr} {xs ys : List V} {n : Nat} (l1 : xs.length = n) (l2 : ys.length = n) : Walk (ItZ b1 b2 K a1 a2) n (fun H => SqK b1 K H a1 xs ∧ SqK b2 K H a2 ys) (YPair (fun i => xs[i]?) (fun i => ys[i]?)) := by
  subst l1
  refine ⟨fun i _ hi q => ?_, fun _ q => ⟨xs, ys, q.1, q.2, rfl, l2⟩, fun i H v H' _ q y => ?_⟩
  · exact ⟨xs, ys, xs[i], ys[i]'(by omega), q.1, q.2, by simp [hi], by simp⟩
  · obtain ⟨T, x, z, h1, h2, h3, h4, h5⟩ := y
    exact ⟨T, x, z, h1, h2, h3, h4 xs q.1, h5 ys q.2⟩
end G0

namespace G0
open PySem PySem.Spec PyProof.Rows L2
section
variable {X : Cx} {pos : Pos}
/-- (a, b, ..) = a list (true) or a tuple (false) of that length -/
def gSeq (k : Bool) (K : PySem.W.Frag) (n : Nat) (t : TGs) : TG := fun v σ H Q => ∃ a xs, v = .ref a ∧ SqK k K H a xs ∧ xs.length = n ∧ t xs σ H Q
theorem pg_seq (kd : Bool) {es : List Expr} {k : Nat} {t : TGs} {n : Nat} (hc : X.calm = true) (h : PGs X es t)
    (hn : (assignEach es X.env).length = n := by rfl) (hst : (assignEach es X.env).findIdx? (·.1) = none := by rfl) : PG X (.Tuple es k pos) (gSeq kd X.K n t) := by
  refine ⟨fun pins s σ H v u Q I r hw => ?_⟩
  obtain ⟨a, xs, rfl, hq, hl, hw⟩ := hw
  cases r
  cases kd with
  | false =>
    obtain ⟨its, rv, ht, hz⟩ := I.tuple hq
    refine assign_Tuple_tuple (I.ok.hd hc) ht (by simp [hn, ← hl, rv.length]) hst fun h' hx => ?_
    have I1 : Inv X pins σ H { s with heap := h' } := I.kept (t' := s.toks) fun b o e => hx b o (Nat.ne_of_lt (Heap.lt_size e)) e
    exact h.run pins _ σ H xs _ Q I1 (by simpa using rv) hw
  | true =>
    obtain ⟨its, rv, isK, la⟩ := seq_K (b := true) I hq
    rw [assign_Tuple]
    refine wpAny_bind (wpAny_standAt ?_)
    unfold unpack
    have e1 : (assignEach es X.env).length = its.toArray.size := by simp [hn, ← hl, rv.length]
    rw [e1, hst]
    refine wpAny_bind (wpAny_holding (PySem.W.kun_itemsOf (I.ok.hd hc) isK fun h' hx => ?_))
    have I1 : Inv X pins σ H { s with heap := h' } := I.kept (t' := s.toks) fun b o e => hx b o (Nat.ne_of_lt (Heap.lt_size e)) e
    exact h.run pins _ σ H xs _ Q I1 (by simpa using rv) hw
end
end G0

namespace G0
open PySem PySem.Spec PyProof.Rows L2
section
variable {K : PySem.W.Frag} {a : Addr} {xs : List V} {g : TG} {tt : TT} {te : TE} {vs : List Nat} {σ : L2.St} {H1 : Hp} {D : Addr} {Qd : Hp → Prop}
/-- a comprehension that adds F i for the i-th item -/
theorem lcI (F : Nat → V) (hl : SqL K H1 a xs) (hn : xs.length < sizeLine) (hD : H1 D = none) (t : ∀ i x, xs[i]? = some x → ∀ H, Same H1 H → ∀ (G : V → Hp → Prop) (N : Hp → Prop), (∀ H', Same H H' → G (F i) H') → g x (wipe σ vs) H fun σ2 H2 => wipe σ2 vs = wipe σ vs ∧ tt σ2 H2 fun b H3 => if b = true then te σ2 H3 G else N H3)
    (hd : ∀ H, Same H1 H → H D = some (.lst ((List.range' 0 xs.length).map F)) → Qd H) :
    ∃ W : Nat → Nat → Hp → Prop, (∃ m, W 0 m (upd H1 D (.lst []))) ∧ ∀ i m H, W i m H →
      ((Itl K a).stop i H ∧ Qd H) ∨ ((Itl K a).go i H ∧ ∃ Nx : Hp → Prop, (∀ H', Nx H' → ∃ m', m' < m ∧ W (i + 1) m' H') ∧ ∀ x H', (Itl K a).yld i H x H' → g x (wipe σ vs) H' fun σ2 H2 => wipe σ2 vs = wipe σ vs ∧ tt σ2 H2 fun b H3 =>
        if b = true then te σ2 H3 fun y H4 => ∃ acc, H4 D = some (.lst acc) ∧ acc.length < sizeLine ∧ Nx (upd H4 D (.lst (acc ++ [y]))) else Nx H3) :=
  lc_list (xs := xs) (fun i H => Same H1 H ∧ H D = some (.lst ((List.range' 0 i).map F))) ⟨same_new hD, upd_same⟩ (fun _ _ _ h => h.1.seq hl)
    (fun i x H hx h => t i x hx H h.1 _ _ fun H' s => by
      have hi := (List.getElem?_eq_some_iff.mp hx).1
      refine ⟨_, s _ _ h.2, ?_, fun b o eb => ?_, ?_⟩
      · rw [List.length_map, List.length_range']
        omega
      · rw [upd_ne (ne_of_none eb hD)]
        exact (h.1.trans s) _ _ eb
      · rw [upd_same, List.range'_concat, List.map_append]
        simp) (fun H h => hd H h.1 h.2)
/-- a comprehension over a tuple -/
theorem lcIT (F : Nat → V) (hl : SqT K H1 a xs) (hn : xs.length < sizeLine) (hD : H1 D = none) (t : ∀ i x, xs[i]? = some x → ∀ H, Same H1 H → ∀ (G : V → Hp → Prop) (N : Hp → Prop), (∀ H', Same H H' → G (F i) H') → g x (wipe σ vs) H fun σ2 H2 => wipe σ2 vs = wipe σ vs ∧ tt σ2 H2 fun b H3 => if b = true then te σ2 H3 G else N H3)
    (hd : ∀ H, Same H1 H → H D = some (.lst ((List.range' 0 xs.length).map F)) → Qd H) :
    ∃ W : Nat → Nat → Hp → Prop, (∃ m, W 0 m (upd H1 D (.lst []))) ∧ ∀ i m H, W i m H →
      ((Itt K a).stop i H ∧ Qd H) ∨ ((Itt K a).go i H ∧ ∃ Nx : Hp → Prop, (∀ H', Nx H' → ∃ m', m' < m ∧ W (i + 1) m' H') ∧ ∀ x H', (Itt K a).yld i H x H' → g x (wipe σ vs) H' fun σ2 H2 => wipe σ2 vs = wipe σ vs ∧ tt σ2 H2 fun b H3 =>
        if b = true then te σ2 H3 fun y H4 => ∃ acc, H4 D = some (.lst acc) ∧ acc.length < sizeLine ∧ Nx (upd H4 D (.lst (acc ++ [y]))) else Nx H3) :=
  lc_tup (xs := xs) (fun i H => Same H1 H ∧ H D = some (.lst ((List.range' 0 i).map F))) ⟨same_new hD, upd_same⟩ (fun _ _ _ h => same_t h.1 hl)
    (fun i x H hx h => t i x hx H h.1 _ _ fun H' s => by
      have hi := (List.getElem?_eq_some_iff.mp hx).1
      refine ⟨_, s _ _ h.2, ?_, fun b o eb => ?_, ?_⟩
      · rw [List.length_map, List.length_range']
        omega
      · rw [upd_ne (ne_of_none eb hD)]
        exact (h.1.trans s) _ _ eb
      · rw [upd_same, List.range'_concat, List.map_append]
        simp) (fun H h => hd H h.1 h.2)
end
end G0

namespace G0
open PySem PySem.Spec PyProof.Rows L2
/-- over what is a list or a tuple, as it comes -/
def iAny (K : PySem.W.Frag) (tl : TE) : TI := fun σ H R => iList K tl σ H R ∨ iTup K tl σ H R
theorem pi_any {X : Cx} {tg l : Expr} {tl : TE} (hl : PE X l tl) : PI X tg l (iAny X.K tl) :=
  ⟨fun pins s σ H R I h => h.elim (fun h => (pi_list hl).run pins s σ H R I h) (fun h => (pi_tup hl).run pins s σ H R I h)⟩
end G0

namespace G0
/-! ### rows that can be: step by step, and by places -/
def ffGo : Nat → Int → Int → List Int → Option Nat
  | _, _, _, [] => none
  | p, a, t, n :: ns => if p = 9 ∨ 24 < t + n ∨ ¬ ((a = (p : Int) ∧ n = (p : Int) + 1) ∨ (0 < n ∧ n ≤ a)) then some p else ffGo (p + 1) n (t + n) ns
def ff (ns : List Int) : Option Nat := ffGo 0 0 0 ns
def lastI (a : Int) (ns : List Int) : Int := ns.getLast?.getD a
theorem lastI_snoc (a n : Int) (ns : List Int) : lastI a (ns ++ [n]) = n := by simp [lastI]
theorem lastI_cons (a n : Int) (ns : List Int) : lastI a (n :: ns) = lastI n ns := by
  unfold lastI
  cases ns with
  | nil => rfl
  | cons m ns => simp [List.getLast?_cons]
theorem ffGo_app : ∀ (xs : List Int) (p : Nat) (a t : Int) (ys : List Int), ffGo p a t (xs ++ ys) = match ffGo p a t xs with | some k => some k | none => ffGo (p + xs.length) (lastI a xs) (t + xs.sum) ys
  | [], p, a, t, ys => by simp [ffGo, lastI]
  | x :: xs, p, a, t, ys => by
    have c : ∀ zs : List Int, ffGo p a t (x :: zs) = if p = 9 ∨ 24 < t + x ∨ ¬ ((a = (p : Int) ∧ x = (p : Int) + 1) ∨ (0 < x ∧ x ≤ a)) then some p else ffGo (p + 1) x (t + x) zs := fun zs => by rw [ffGo]
    rw [List.cons_append, c, c]
    by_cases q : p = 9 ∨ 24 < t + x ∨ ¬ ((a = (p : Int) ∧ x = (p : Int) + 1) ∨ (0 < x ∧ x ≤ a))
    · rw [if_pos q, if_pos q]
    · rw [if_neg q, if_neg q, ffGo_app xs, lastI_cons, List.length_cons, List.sum_cons, show p + 1 + xs.length = p + (xs.length + 1) by omega, show t + x + xs.sum = t + (x + xs.sum) by omega]
def okStep (p : Nat) (a t n : Int) : Prop := p ≠ 9 ∧ t + n ≤ 24 ∧ ((a = (p : Int) ∧ n = (p : Int) + 1) ∨ (0 < n ∧ n ≤ a))
instance (p : Nat) (a t n : Int) : Decidable (okStep p a t n) := by unfold okStep; infer_instance
theorem ff_snoc (xs : List Int) (n : Int) : ff (xs ++ [n]) = match ff xs with | some k => some k | none => if okStep xs.length (lastI 0 xs) xs.sum n then none else some xs.length := by
  unfold ff
  rw [ffGo_app]
  cases ffGo 0 0 0 xs with
  | some k => rfl
  | none =>
    show ffGo _ _ _ [n] = _
    unfold ffGo
    rw [Nat.zero_add, Int.zero_add]
    by_cases h : okStep xs.length (lastI 0 xs) xs.sum n
    · rw [if_pos h, if_neg]
      · rfl
      · intro q
        obtain ⟨h1, h2, h3⟩ := h
        rcases q with q | q | q
        · exact h1 q
        · omega
        · exact q h3
    · rw [if_neg h, if_pos]
      by_cases h1 : xs.length = 9
      · exact .inl h1
      · by_cases h2 : 24 < xs.sum + n
        · exact .inr (.inl h2)
        · exact .inr (.inr fun h3 => h ⟨h1, by omega, h3⟩)
theorem ff_take {ns : List Int} {i : Nat} {n : Int} (hn : ns[i]? = some n) (h0 : ff (ns.take i) = none) : ff (ns.take (i + 1)) = (if okStep i (lastI 0 (ns.take i)) (ns.take i).sum n then none else some i) := by
  have hi := (List.getElem?_eq_some_iff.mp hn).1
  have e : ns.take (i + 1) = ns.take i ++ [n] := by rw [List.take_add_one, hn]; rfl
  rw [e, ff_snoc, h0, List.length_take, Nat.min_eq_left (by omega)]
theorem ff_stop {ns : List Int} {i k : Nat} (h : ff (ns.take i) = some k) : ff ns = some k := by
  have e : ns = ns.take i ++ ns.drop i := (List.take_append_drop i ns).symm
  rw [e]
  unfold ff
  rw [ffGo_app]
  unfold ff at h
  rw [h]
theorem ff_pre {ns : List Int} (i : Nat) (h : ff ns = none) : ff (ns.take i) = none := by
  cases e : ff (ns.take i) with
  | none => rfl
  | some k => rw [ff_stop e] at h; cases h
/-- the places of numbers above j -/
def plcGo (j : Int) : Nat → List Int → List Nat
  | _, [] => []
  | k, n :: ns => (if j < n then [k] else []) ++ plcGo j (k + 1) ns
def plc (j : Int) (ns : List Int) : List Nat := plcGo j 0 ns
theorem plcGo_app (j : Int) : ∀ (xs : List Int) (k : Nat) (ys : List Int), plcGo j k (xs ++ ys) = plcGo j k xs ++ plcGo j (k + xs.length) ys
  | [], k, ys => by simp [plcGo]
  | x :: xs, k, ys => by
    rw [List.cons_append, plcGo, plcGo, plcGo_app j xs, List.append_assoc, List.length_cons, show k + 1 + xs.length = k + (xs.length + 1) by omega]
theorem plc_snoc (j : Int) (xs : List Int) (n : Int) : plc j (xs ++ [n]) = plc j xs ++ if j < n then [xs.length] else [] := by
  unfold plc
  rw [plcGo_app]
  simp [plcGo]
theorem plcGo_mem (j : Int) : ∀ (xs : List Int) (k i : Nat), i ∈ plcGo j k xs → k ≤ i ∧ i < k + xs.length
  | [], k, i, h => by simp [plcGo] at h
  | x :: xs, k, i, h => by
    unfold plcGo at h
    rw [List.length_cons]
    rcases List.mem_append.mp h with h | h
    · by_cases q : j < x
      · rw [if_pos q] at h
        have := List.mem_singleton.mp h
        omega
      · rw [if_neg q] at h
        cases h
    · have := plcGo_mem j xs (k + 1) i h
      omega
theorem plc_lt {j : Int} {xs : List Int} {i : Nat} (h : i ∈ plc j xs) : i < xs.length := by
  have := plcGo_mem j xs 0 i h
  omega
theorem plcGo_nil (j : Int) : ∀ (xs : List Int) (k : Nat), (∀ m ∈ xs, m ≤ j) → plcGo j k xs = []
  | [], k, h => rfl
  | x :: xs, k, h => by
    unfold plcGo
    have := h x (by simp)
    rw [if_neg (by omega), plcGo_nil j xs (k + 1) fun m hm => h m (by simp [hm])]
    rfl
theorem plcGo_ne (j : Int) : ∀ (xs : List Int) (k : Nat), (∃ m ∈ xs, j < m) → plcGo j k xs ≠ []
  | [], k, h => by simp at h
  | x :: xs, k, h => by
    unfold plcGo
    by_cases q : j < x
    · rw [if_pos q]
      simp
    · rw [if_neg q, List.nil_append]
      refine plcGo_ne j xs (k + 1) ?_
      obtain ⟨m, hm, hl⟩ := h
      rcases List.mem_cons.mp hm with rfl | hm
      · exact absurd hl q
      · exact ⟨m, hm, hl⟩
structure RowI (ns : List Int) : Prop where
  len : ns.length ≤ 9
  pos : ∀ n ∈ ns, 0 < n
  sum : ns.sum ≤ 24
  pl : ∀ j : Nat, (∃ m ∈ ns, (j : Int) < m) → plc (j : Int) ns = List.range' j (plc (j : Int) ns).length
def Can (ns : List Int) : Prop := ns ≠ [] ∧ RowI ns
theorem range_pre {A B : List Nat} {j L : Nat} (h : A ++ B = List.range' j L) : A = List.range' j A.length := by
  have e : A = (List.range' j L).take A.length := by rw [← h]; simp
  have l : A.length ≤ L := by
    have := congrArg List.length h
    simp at this
    omega
  have tr : ∀ (n s m : Nat), m ≤ n → (List.range' s n).take m = List.range' s m := by
    intro n
    induction n with
    | zero =>
      intro s m h
      rw [show m = 0 by omega]
      rfl
    | succ n ih =>
      intro s m h
      cases m with
      | zero => rfl
      | succ m => rw [List.range'_succ, List.range'_succ, List.take_succ_cons, ih _ _ (by omega)]
  exact e.trans (tr _ _ _ l)
theorem range_snoc {A : List Nat} {j p L : Nat} (h : A ++ [p] = List.range' j L) : p = j + A.length := by
  have l : L = A.length + 1 := by
    have := congrArg List.length h
    simp at this
    omega
  rw [l, List.range'_concat] at h
  have := (List.append_inj' h (by simp)).2
  simpa using this
theorem row_le {xs : List Int} (r : RowI xs) : ∀ m ∈ xs, m ≤ (xs.length : Int) := by
  intro m hm
  by_cases h : (xs.length : Int) < m
  · have e := r.pl xs.length ⟨m, hm, h⟩
    have ne : plc (xs.length : Int) xs ≠ [] := plcGo_ne _ xs 0 ⟨m, hm, h⟩
    have l : 0 < (plc (xs.length : Int) xs).length := List.length_pos_iff.mpr ne
    have mem : xs.length ∈ plc (xs.length : Int) xs := by
      rw [e, List.mem_range'_1]
      omega
    exact absurd (plc_lt mem) (by omega)
  · omega
theorem snoc_cases (xs : List Int) : xs = [] ∨ ∃ ys a, xs = ys ++ [a] := by
  rcases List.eq_nil_or_concat xs with h | ⟨ys, a, h⟩
  · exact .inl h
  · exact .inr ⟨ys, a, by simpa using h⟩
theorem row_snoc (xs : List Int) (n : Int) : RowI (xs ++ [n]) ↔ RowI xs ∧ okStep xs.length (lastI 0 xs) xs.sum n := by
  have sumE : (xs ++ [n]).sum = xs.sum + n := by simp
  have lenE : (xs ++ [n]).length = xs.length + 1 := by simp
  constructor
  · intro r
    have len := r.len
    have sm := r.sum
    rw [lenE] at len
    rw [sumE] at sm
    have n0 : 0 < n := r.pos n (by simp)
    have rx : RowI xs := by
      refine ⟨by omega, fun m hm => r.pos m (by simp [hm]), by omega, fun j hj => ?_⟩
      obtain ⟨m, hm, hl⟩ := hj
      have e := r.pl j ⟨m, by simp [hm], hl⟩
      rw [plc_snoc] at e
      exact range_pre e
    refine ⟨rx, by omega, sm, ?_⟩
    by_cases h : n ≤ lastI 0 xs
    · exact .inr ⟨n0, h⟩
    · left
      have a0 : 0 ≤ lastI 0 xs := by
        rcases snoc_cases xs with rfl | ⟨ys, a, rfl⟩
        · simp [lastI]
        · rw [lastI_snoc]
          have := rx.pos a (by simp)
          omega
      obtain ⟨j, hj⟩ := Int.eq_ofNat_of_zero_le a0
      have e := r.pl j ⟨n, by simp, by omega⟩
      rw [plc_snoc, if_pos (by omega)] at e
      have pj := range_snoc e
      have jp : j = xs.length := by
        rcases snoc_cases xs with rfl | ⟨ys, a, rfl⟩
        · simp [lastI] at hj
          simp
          omega
        · rw [lastI_snoc] at hj
          have e2 : plc (j : Int) (ys ++ [a]) = plc (j : Int) ys := by rw [plc_snoc, if_neg (by omega), List.append_nil]
          by_cases z : plc (j : Int) ys = []
          · rw [e2, z] at pj
            simp at pj
            simp
            omega
          · have e3 := range_pre e
            rw [e2] at e3 pj
            have lp : 0 < (plc (j : Int) ys).length := List.length_pos_iff.mpr z
            have mem : j + (plc (j : Int) ys).length - 1 ∈ plc (j : Int) ys := by
              rw [e3, List.mem_range'_1]
              rw [← e3]
              omega
            have := plc_lt mem
            simp at pj
            omega
      refine ⟨by omega, ?_⟩
      by_cases h2 : n = (xs.length : Int) + 1
      · exact h2
      · exfalso
        have h3 : ((xs.length + 1 : Nat) : Int) < n := by omega
        have e := r.pl (xs.length + 1) ⟨n, by simp, h3⟩
        rw [plc_snoc, if_pos h3] at e
        have := range_snoc e
        omega
  · rintro ⟨r, h9, h24, hs⟩
    have n0 : 0 < n := by
      rcases hs with ⟨_, h⟩ | ⟨h, _⟩ <;> omega
    have := r.len
    refine ⟨by rw [lenE]; omega, fun m hm => ?_, by rw [sumE]; exact h24, fun j hj => ?_⟩
    · rcases List.mem_append.mp hm with hm | hm
      · exact r.pos m hm
      · rw [List.mem_singleton.mp hm]
        exact n0
    · rw [plc_snoc]
      by_cases hn : (j : Int) < n
      · rw [if_pos hn]
        have key : plc (j : Int) xs = List.range' j (plc (j : Int) xs).length ∧ j + (plc (j : Int) xs).length = xs.length := by
          by_cases ja : (j : Int) < lastI 0 xs
          · rcases snoc_cases xs with rfl | ⟨ys, a, rfl⟩
            · simp [lastI] at ja
              omega
            · rw [lastI_snoc] at ja
              have e := r.pl j ⟨a, by simp, ja⟩
              refine ⟨e, ?_⟩
              rw [plc_snoc, if_pos ja] at e
              have := range_snoc e
              rw [plc_snoc, if_pos ja]
              simp
              omega
          · have jp : j = xs.length := by
              rcases hs with ⟨h1, h2⟩ | ⟨h1, h2⟩ <;> omega
            have z : plc (j : Int) xs = [] := plcGo_nil _ xs 0 fun m hm => by
              have := row_le r m hm
              omega
            rw [z]
            simp
            omega
        rw [List.length_append, List.length_singleton, List.range'_concat, ← key.1]
        congr 2
        omega
      · rw [if_neg hn, List.append_nil]
        refine r.pl j ?_
        obtain ⟨m, hm, hl⟩ := hj
        rcases List.mem_append.mp hm with hm | hm
        · exact ⟨m, hm, hl⟩
        · rw [List.mem_singleton.mp hm] at hl
          exact absurd hl hn
theorem row_iff (ns : List Int) : RowI ns ↔ ff ns = none := by
  have gen : ∀ (k : Nat) (ns : List Int), ns.length = k → (RowI ns ↔ ff ns = none) := by
    intro k
    induction k with
    | zero =>
      intro ns h
      obtain rfl := List.length_eq_zero_iff.mp h
      exact ⟨fun _ => rfl, fun _ => ⟨by simp, by simp, by simp, fun j hj => by simp at hj⟩⟩
    | succ k ih =>
      intro ns h
      rcases snoc_cases ns with rfl | ⟨ys, a, rfl⟩
      · cases h
      · have hl : ys.length = k := by simpa using h
        rw [row_snoc, ff_snoc, ih ys hl]
        cases ff ys with
        | some k => simp
        | none =>
          show _ ↔ (if okStep _ _ _ _ then none else some _) = none
          by_cases q : okStep ys.length (lastI 0 ys) ys.sum a
          · rw [if_pos q]
            simp [q]
          · rw [if_neg q]
            simp [q]
  exact gen _ ns rfl
theorem can_iff {ns : List Int} (h : ns ≠ []) : Can ns ↔ ff ns = none := ⟨fun c => (row_iff ns).mp c.2, fun e => ⟨h, (row_iff ns).mpr e⟩⟩
end G0

namespace G0
open PySem PySem.Spec PyProof.Rows L2
def top (i : Nat) : Stmt := PySem.Challenge.pw_pointrows_k53_whole_lengths_there_and_ba.main.body.getD i (.Pass ⟨0, 0, 0, 0⟩)
abbrev s_is_integer : Stmt := top 1
abbrev s_is_count : Stmt := top 2
abbrev s_is_list : Stmt := top 3
theorem sc_is_integer : FnScope ["value"] ["value"] (defScope s_is_integer) := ⟨rfl, rfl, rfl, by decide +kernel, rfl, by decide +kernel, by decide +kernel⟩
theorem sc_is_list : FnScope ["value"] ["value"] (defScope s_is_list) := ⟨rfl, rfl, rfl, by decide +kernel, rfl, by decide +kernel, by decide +kernel⟩
/-- a def of the top: where it stands, that its name tells it, how it binds -/
structure Df (K : PySem.W.Frag) (mg : Str → Option Value) (x : Str) (st : Stmt) (ps : List Str) (f : Addr) (fd : FuncData) : Prop where
  F : Fun K x x st f fd
  g : mg x = some (.ref f)
  b : Binds K fd ps []
theorem pdf {X : Cx} {k : Nat} {f : Addr} {fd : FuncData} {ps : List Str} {sp : Sp} {x : Str} {st : Stmt} {p pos : Pos} {e : Expr} {es : List Expr} {t : TA} (D : Df X.K X.mg x st ps f fd) (G : FnOk X.prog X.w X.K X.mg X.base CX0 k f fd ps sp) (hr : Room k X.A) (ha : PA X (e :: es) t) (hg : Gl X x := by rfl)
    (hdb : (x == ("__debug__" : Str)) = false := by decide) (he : starEach (e :: es) X.env = (false, eval e X.env) :: starEach es X.env := by rfl) (hpl : (backTo pos (starEach es X.env)).any (·.1) = false := by rfl) :
    PE X (.Call (.Name x p) (e :: es) [] pos) (tCall sp [] E0 t) := pe_call G hr hg D.g D.F.kp D.b .nil pass0 ha hdb he hpl
/-- the built-in names are the built-in ones still -/
structure Blt (mg : Str → Option Value) : Prop where
  isinstance : mg "isinstance" = none
  int : mg "int" = none
  bool : mg "bool" = none
  list : mg "list" = none
  tuple : mg "tuple" = none
  len : mg "len" = none
  all : mg "all" = none
  any : mg "any" = none
  abs : mg "abs" = none
  max : mg "max" = none
  min : mg "min" = none
  divmod : mg "divmod" = none
  range : mg "range" = none
  repr : mg "repr" = none
  enumerate : mg "enumerate" = none
  sum : mg "sum" = none
  sorted : mg "sorted" = none
  str : mg "str" = none
  dict : mg "dict" = none

section
variable {P : Program} {w : World} {K : PySem.W.Frag} {mg : Str → Option Value} {base : Heap}
theorem pty {X : Cx} {x : Str} {p : Pos} {n : String} (hm : X.mg x = none) (hv : bootBuiltins x = some (.type n)) (hg : Gl X x := by rfl) (hn : x ≠ "__name__" := by decide) (hdb : (x == ("__debug__" : Str)) = false := by decide) : PE X (.Name x p) (tC (.ty n)) :=
  pe_bltn hg hm hv (show RelV (.ty n) (.type n) from rfl) hn hdb
theorem boot_isi : bootBuiltins "isinstance" = some (.builtin "isinstance") := by decide +kernel
theorem boot_tint : bootBuiltins "int" = some (.type "int") := by decide +kernel
theorem boot_tbool : bootBuiltins "bool" = some (.type "bool") := by decide +kernel
theorem boot_tlist : bootBuiltins "list" = some (.type "list") := by decide +kernel
theorem boot_ttuple : bootBuiltins "tuple" = some (.type "tuple") := by decide +kernel
theorem boot_all : bootBuiltins "all" = some (.builtin "all") := by decide +kernel
theorem boot_any : bootBuiltins "any" = some (.builtin "any") := by decide +kernel
theorem kit_ii : PySem.W.kitOne K (.type "int") (.type "int") = some true := kit_ty (by decide +kernel)
theorem kit_ib : PySem.W.kitOne K (.type "int") (.type "bool") = some false := kit_ty (by decide +kernel)
theorem kit_ll : PySem.W.kitOne K (.type "list") (.type "list") = some true := kit_ty (by decide +kernel)
theorem kit_tl : PySem.W.kitOne K (.type "tuple") (.type "list") = some false := kit_ty (by decide +kernel)
theorem kit_tt : PySem.W.kitOne K (.type "tuple") (.type "tuple") = some true := kit_ty (by decide +kernel)


theorem boot_sum : bootBuiltins "sum" = some (.builtin "sum") := by decide +kernel
theorem boot_max : bootBuiltins "max" = some (.builtin "max") := by decide +kernel
theorem boot_min : bootBuiltins "min" = some (.builtin "min") := by decide +kernel
theorem boot_abs : bootBuiltins "abs" = some (.builtin "abs") := by decide +kernel
theorem boot_divmod : bootBuiltins "divmod" = some (.builtin "divmod") := by decide +kernel
theorem boot_repr : bootBuiltins "repr" = some (.builtin "repr") := by decide +kernel
theorem boot_sorted : bootBuiltins "sorted" = some (.builtin "sorted") := by decide +kernel
theorem boot_trange : bootBuiltins "range" = some (.type "range") := by decide +kernel
theorem boot_tstr : bootBuiltins "str" = some (.type "str") := by decide +kernel
theorem boot_tdict : bootBuiltins "dict" = some (.type "dict") := by decide +kernel
end
/-! ### any value, as far as the program looks at it -/
inductive AV where
  | int (n : Int)
  | other
  | seq (xs : List AV)
mutual
inductive AVal (K : PySem.W.Frag) (H : Hp) : V → AV → Prop where
  | int (n : Int) : AVal K H (.int n) (.int n)
  | other {v : V} {t : Value} {i b : Bool} (ty : TyX K H v t) (k1 : PySem.W.kitOne K t (.type "int") = some i) (k2 : PySem.W.kitOne K t (.type "bool") = some b) (no : (i && !b) = false) (k3 : PySem.W.kitOne K t (.type "list") = some false) (k4 : PySem.W.kitOne K t (.type "tuple") = some false) : AVal K H v .other
  | seq {a : Addr} {vs : List V} {xs : List AV} (h : Sq K H a vs) (hs : AVals K H vs xs) : AVal K H (.ref a) (.seq xs)
inductive AVals (K : PySem.W.Frag) (H : Hp) : List V → List AV → Prop where
  | nil : AVals K H [] []
  | cons {v : V} {vs : List V} {x : AV} {xs : List AV} : AVal K H v x → AVals K H vs xs → AVals K H (v :: vs) (x :: xs)
end
theorem tyof_same {K : PySem.W.Frag} {H H' : Hp} {v : V} {t : Value} (e : Same H H') (h : TyOf K H v t) : TyOf K H' v t := by
  cases h with
  | non => exact .non
  | bl b => exact .bl b
  | int n => exact .int n
  | str z => exact .str z
  | flt z => exact .flt z
  | lst q => exact .lst (e _ _ q)
  | frz q => exact .frz (e _ _ q)
  | tup q => exact .tup (e _ _ q)
  | dK q => exact .dK (e _ _ q)
  | dT q => exact .dT (e _ _ q)
  | ins q cl ha hn htk hm => exact .ins (e _ _ q) cl ha hn htk hm
theorem tyx_same {K : PySem.W.Frag} {H H' : Hp} {v : V} {t : Value} (e : Same H H') (h : TyX K H v t) : TyX K H' v t := by
  cases h with
  | base h => exact .base (tyof_same e h)
  | byt b => exact .byt b
  | set q => exact .set (e _ _ q)
  | kList q c => exact .kList q c
  | kTuple q c => exact .kTuple q c
  | kDict q c => exact .kDict q c
  | fTuple q => exact .fTuple (e _ _ q)
  | fDict q => exact .fDict (e _ _ q)
mutual
theorem AVal.same {K : PySem.W.Frag} {H H' : Hp} (e : Same H H') : ∀ {v : V} {x : AV}, AVal K H v x → AVal K H' v x
  | _, _, .int n => .int n
  | _, _, .other ty k1 k2 no k3 k4 => .other (tyx_same e ty) k1 k2 no k3 k4
  | _, _, .seq h hs => .seq (h.same e) (AVals.same e hs)
theorem AVals.same {K : PySem.W.Frag} {H H' : Hp} (e : Same H H') : ∀ {vs : List V} {xs : List AV}, AVals K H vs xs → AVals K H' vs xs
  | _, _, .nil => .nil
  | _, _, .cons h hs => .cons (AVal.same e h) (AVals.same e hs)
end
def AV.isInt : AV → Bool
  | .int _ => true
  | _ => false
def AV.isSeq : AV → Bool
  | .seq _ => true
  | _ => false
def AV.isThree : AV → Bool
  | .seq xs => decide (xs.length = 3) && xs.all AV.isInt
  | _ => false
theorem AVals.len {K : PySem.W.Frag} {H : Hp} : ∀ {vs : List V} {xs : List AV}, AVals K H vs xs → vs.length = xs.length
  | _, _, .nil => rfl
  | _, _, .cons _ h => by rw [List.length_cons, List.length_cons, AVals.len h]
theorem AVals.at {K : PySem.W.Frag} {H : Hp} : ∀ {vs : List V} {xs : List AV} {i : Nat} {v : V}, AVals K H vs xs → vs[i]? = some v → ∃ x, xs[i]? = some x ∧ AVal K H v x
  | _, _, 0, _, .cons h _, e => by
    cases e
    exact ⟨_, rfl, h⟩
  | _, _, i + 1, _, .cons _ h, e => AVals.at (i := i) h e
section
variable {P : Program} {w : World} {K : PySem.W.Frag} {mg : Str → Option Value} {base : Heap}
def sp_intA (K : PySem.W.Frag) : Sp := fun vs H Q _ => ∃ (v : V) (x : AV), vs = [v] ∧ AVal K H v x ∧ Q (.bl x.isInt) H
theorem kit_li {K : PySem.W.Frag} : PySem.W.kitOne K (.type "list") (.type "int") = some false := rfl
theorem kit_ti {K : PySem.W.Frag} : PySem.W.kitOne K (.type "tuple") (.type "int") = some false := rfl
theorem ok_intA {f : Addr} {fd : FuncData} (F : Fun K "is_integer" "is_integer" s_is_integer f fd) (B : Blt mg) : FnOk P w K mg base CX0 1 f fd ["value"] (sp_intA K) := by
  refine F.ok sc_is_integer (fun vs H Q E h => ?_) (fun cdv A outer s H vs Q E hr h => ?_)
  · obtain ⟨v, x, rfl, _⟩ := h
    rfl
  · obtain ⟨v, x, rfl, hv, q⟩ := h
    refine ⟨_, pss_one (ps_ret (pe_and (pe_callB call_isi (by rfl) B.isinstance boot_isi (pa_cons (pv 0) (pa_cons (pty B.int boot_tint) pa_nil)))
      (pe_one (pe_not (pe_callB call_isi (by rfl) B.isinstance boot_isi (pa_cons (pv 0) (pa_cons (pty B.bool boot_tbool) pa_nil))))))), ?_⟩
    cases hv with
    | int n =>
      refine ⟨_, rfl, _, _, _, _, true, rfl, .ty "int", .base (.int n), kit_ii, true, rfl, iteT ?_⟩
      exact ⟨_, rfl, _, _, _, _, false, rfl, .ty "bool", .base (.int n), kit_ib, false, rfl, q⟩
    | @other _ t i b ty k1 k2 no k3 k4 =>
      refine ⟨_, rfl, _, _, _, _, i, rfl, .ty "int", ty, k1, i, rfl, ?_⟩
      cases i with
      | false => exact iteF q
      | true =>
        refine iteT ?_
        cases b with
        | true => exact ⟨_, rfl, _, _, _, _, true, rfl, .ty "bool", ty, k2, true, rfl, q⟩
        | false => cases no
    | seq h hs =>
      rcases h with h | h
      · exact ⟨_, rfl, _, _, _, _, false, rfl, .ty "int", ty_l h, kit_li, false, rfl, iteF q⟩
      · exact ⟨_, rfl, _, _, _, _, false, rfl, .ty "int", ty_t h, kit_ti, false, rfl, iteF q⟩
def sp_listA (K : PySem.W.Frag) : Sp := fun vs H Q _ => ∃ (v : V) (x : AV), vs = [v] ∧ AVal K H v x ∧ ∀ H', Same H H' → Q (.bl x.isSeq) H'
theorem kit_il {K : PySem.W.Frag} : PySem.W.kitOne K (.type "int") (.type "list") = some false := rfl
theorem kit_it {K : PySem.W.Frag} : PySem.W.kitOne K (.type "int") (.type "tuple") = some false := rfl
theorem ok_listA {f : Addr} {fd : FuncData} (F : Fun K "is_list" "is_list" s_is_list f fd) (B : Blt mg) : FnOk P w K mg base CX0 1 f fd ["value"] (sp_listA K) := by
  refine F.ok sc_is_list (fun vs H Q E h => ?_) (fun cdv A outer s H vs Q E hr h => ?_)
  · obtain ⟨v, x, rfl, _⟩ := h
    rfl
  · obtain ⟨v, x, rfl, hv, q⟩ := h
    refine ⟨_, pss_one (ps_ret (pe_callB call_isiT (by rfl) B.isinstance boot_isi (pa_cons (pv 0) (pa_cons (pe_tup (pa_cons (pty B.list boot_tlist) (pa_cons (pty B.tuple boot_ttuple) pa_nil))) pa_nil)))), ?_⟩
    refine ⟨_, rfl, by show 2 ≤ sizeLine; decide, fun p hp => ?_⟩
    have s1 : Same H (upd H p (.tup [.ty "list", .ty "tuple"])) := same_new hp
    have q1 := q _ s1
    cases hv with
    | int n => exact ⟨_, p, _, _, _, false, rfl, upd_same, .cons (.ty "list") (.cons (.ty "tuple") .nil), .base (.int n), kitAny_cons (r := false) kit_il (fun _ => kitAny_cons kit_it (fun _ => rfl) (fun z => nomatch z)) (fun z => nomatch z), q1⟩
    | other ty k1 k2 no k3 k4 => exact ⟨_, p, _, _, _, false, rfl, upd_same, .cons (.ty "list") (.cons (.ty "tuple") .nil), tyx_same s1 ty, kitAny_cons (r := false) k3 (fun _ => kitAny_cons k4 (fun _ => rfl) (fun z => nomatch z)) (fun z => nomatch z), q1⟩
    | seq hs hq =>
      rcases hs with hs | hs
      · exact ⟨_, p, _, _, _, true, rfl, upd_same, .cons (.ty "list") (.cons (.ty "tuple") .nil), ty_l (s1.seq hs), kitAny_cons kit_ll (fun z => nomatch z) fun _ => rfl, q1⟩
      · exact ⟨_, p, _, _, _, true, rfl, upd_same, .cons (.ty "list") (.cons (.ty "tuple") .nil), ty_t (same_t s1 hs), kitAny_cons (r := true) kit_tl (fun _ => kitAny_cons kit_tt (fun z => nomatch z) fun _ => rfl) (fun z => nomatch z), q1⟩
end

section
variable {P : Program} {w : World} {K : PySem.W.Frag} {mg : Str → Option Value} {base : Heap}
theorem isiK {X : Cx} {K : PySem.W.Frag} (h : X.K = K) : CallR X (.builtin "isinstance") (rIsi K) := by
  subst h
  exact call_isi

end
end G0
namespace G0
open PySem PySem.Spec PyProof.Rows L2
abbrev s_pot : Stmt := top 21
abbrev s_draw : Stmt := top 22
theorem seq_join {ta tb : TS} {D : Ends} {σ : L2.St} {H : Hp} (S : L2.St → Hp → Prop) (h1 : ∀ N : L2.St → Hp → Prop, (∀ σ H, S σ H → N σ H) → ta { D with nx := N } σ H) (h2 : ∀ σ H, S σ H → tb D σ H) : tSeq ta tb D σ H := h1 _ h2
/-! ### a law's pot: a list of two ints, changed by each draw; D: what else is known -/
structure Wd (p : Addr) (D H : Hp) : Prop where
  s : Same D H
  n : D p = none
  pot : ∃ a b : Int, 0 ≤ a ∧ 0 ≤ b ∧ b < 4294967296 ∧ H p = some (.lst [.int a, .int b])
theorem Wd.pure {p : Addr} {D H H' : Hp} (w : Wd p D H) (e : Same H H') : Wd p D H' := by
  obtain ⟨s, n, a, b, h1, h2, h3, h4⟩ := w
  exact ⟨s.trans e, n, a, b, h1, h2, h3, e _ _ h4⟩
theorem Wd.got {p q : Addr} {D H : Hp} {o : HO} (w : Wd p D H) (h0 : D q = none) (hp : q ≠ p) (h : H q = some o) : Wd p (upd D q o) H := by
  refine ⟨fun b u e => ?_, ?_, w.pot⟩
  · by_cases eb : b = q
    · subst eb
      rw [upd_same] at e
      cases e
      exact h
    · rw [upd_ne eb] at e
      exact w.s _ _ e
  · rw [upd_ne hp.symm]
    exact w.n
theorem Wd.ne {p q : Addr} {D H : Hp} (w : Wd p D H) (h : H q = none) : q ≠ p := by
  obtain ⟨a, b, _, _, _, h4⟩ := w.pot
  exact (ne_of_none h4 h).symm
/-- a new object, made from H on -/
theorem Wd.new {p q : Addr} {D H H' : Hp} {o : HO} (w : Wd p D H) (e : Same H H') (h : H q = none) (hq : H' q = some o) : Wd p (upd D q o) H' ∧ Same D (upd D q o) ∧ (upd D q o) q = some o :=
  ⟨(w.pure e).got (w.s.free h) (w.ne h) hq, same_new (w.s.free h), upd_same⟩
theorem yes_ite {σ : L2.St} {H : Hp} {A B : Hp → Prop} (h : A H) : tYes σ H (fun b H3 => if b = true then A H3 else B H3) := iteT (B := B H) h
theorem Wd.put {p q : Addr} {D H : Hp} {o o' : HO} (w : Wd p (upd D q o) H) (h0 : D q = none) (hp : q ≠ p) : Wd p D (upd H q o') := by
  obtain ⟨s, n, a, b, h1, h2, h3, h4⟩ := w
  rw [upd_ne hp.symm] at n
  refine ⟨fun c u e => ?_, n, a, b, h1, h2, h3, ?_⟩
  · have nc := ne_of_none e h0
    rw [upd_ne nc]
    exact s _ _ (by rw [upd_ne nc]; exact e)
  · rw [upd_ne hp.symm]
    exact h4
/-- what a helper that draws hands back -/
def Gets (p : Addr) (D : Hp) (R : V → Hp → Prop) (Q : VK) : Prop := ∀ v D' H', Same D D' → Wd p D' H' → R v D' → Q v H'
theorem ne_of_none' {H : Hp} {a b : Addr} {o : HO} (h : H b = some o) (n : H a = none) : a ≠ b := fun e => by
  rw [e, h] at n
  cases n
/-- what is known, but of one thing that changes -/
def del (D : Hp) (L : Addr) : Hp := fun a => if a = L then none else D a
theorem del_at {D : Hp} {L : Addr} : del D L L = none := if_pos rfl
theorem del_ne {D : Hp} {L a : Addr} (h : a ≠ L) : del D L a = D a := if_neg h
theorem same_del {D D' : Hp} {L : Addr} (n : D L = none) (e : Same D D') : Same D (del D' L) := fun b o h => by
  rw [del_ne (ne_of_none h n)]
  exact e _ _ h
theorem Wd.del {p L : Addr} {D H : Hp} (w : Wd p D H) : Wd p (del D L) H := by
  refine ⟨fun b o e => ?_, ?_, w.pot⟩
  · by_cases eb : b = L
    · rw [eb, del_at] at e
      cases e
    · rw [del_ne eb] at e
      exact w.s _ _ e
  · by_cases eb : p = L
    · rw [eb]
      exact del_at
    · rw [del_ne eb]
      exact w.n
theorem Wd.over {p L : Addr} {D H : Hp} {o : HO} (w : Wd p D H) (n : D L = none) (hp : L ≠ p) : Wd p D (upd H L o) := by
  obtain ⟨s, n2, a, b, h1, h2, h3, h4⟩ := w
  refine ⟨fun c u e => ?_, n2, a, b, h1, h2, h3, ?_⟩
  · rw [upd_ne (ne_of_none e n)]
    exact s _ _ e
  · rw [upd_ne hp.symm]
    exact h4
/-- all that stands, but the pot -/
theorem Wd.all {p : Addr} {D H : Hp} (w : Wd p D H) : Wd p (G0.del H p) H ∧ Same D (G0.del H p) :=
  ⟨⟨fun b o e => by
      by_cases eb : b = p
      · rw [eb, del_at] at e
        cases e
      · rw [del_ne eb] at e
        exact e, del_at, w.pot⟩, same_del w.n w.s⟩
section
variable {P : Program} {w : World} {K : PySem.W.Frag} {mg : Str → Option Value} {base : Heap}
theorem if_te {ta tb : TE} {σ : L2.St} {H : Hp} {Q : V → Hp → Prop} {b : Bool} (S : V → Hp → Prop) (h1 : b = true → ∀ R : V → Hp → Prop, (∀ v H', S v H' → R v H') → ta σ H R) (h2 : b = false → ∀ R : V → Hp → Prop, (∀ v H', S v H' → R v H') → tb σ H R) (k : ∀ v H', S v H' → Q v H') :
    if b = true then ta σ H Q else tb σ H Q := by
  cases b with
  | true => exact iteT (h1 rfl Q k)
  | false => exact iteF (h2 rfl Q k)
/-! _law_pot -/
def sp_pot (K : PySem.W.Frag) : Sp := fun vs H Q _ => ∃ (l : Addr) (ns : List Int) (k : Nat), vs = [.ref l, .int (k : Nat)] ∧ SqL K H l (ns.map V.int) ∧ ns.length ≤ 63 ∧ k ≤ 63 ∧ ∀ H' p D, Same H H' → Same H D → Wd p D H' → Q (.ref p) H'
theorem sc_pot : FnScope ["_law_script", "_law_k", "_law_cell"] ["_law_script", "_law_k"] (defScope s_pot) := ⟨rfl, rfl, rfl, by decide +kernel, rfl, by decide +kernel, by decide +kernel⟩
theorem ok_pot {f : Addr} {fd : FuncData} (F : Fun K "_law_pot" "_law_pot" s_pot f fd) (B : Blt mg) : FnOk P w K mg base CX0 1 f fd ["_law_script", "_law_k"] (sp_pot K) := by
  refine F.ok sc_pot (fun vs H Q E h => ?_) (fun cdv A outer s H vs Q E hr h => ?_)
  · obtain ⟨l, ns, k, rfl, _⟩ := h
    rfl
  · obtain ⟨l, ns, k, rfl, hs, hn, hk, q⟩ := h
    refine ⟨_, pss_cons (ps_set (i := 2) sc_pot.nd rfl (Or.inl rfl) (pe_op op_add (pe_op op_mul pe_int (pv 1)) pe_int))
      (pss_cons (ps_if (pt_cmpR op_lt (pv 1) (pe_callB call_len_seq (by rfl) B.len PySem.boot_len (pa_cons (pv 0) pa_nil)) (nomark _)) (pss_one (ps_set (i := 2) sc_pot.nd rfl (Or.inl rfl) (pe_callB call_abs (by rfl) B.abs boot_abs (pa_cons (pe_ix ix_list (pv 0) (pv 1) (fun _ _ => rfl)) pa_nil)))) pss_nil)
      (pss_one (ps_ret (pe_lst (pa_cons (pe_callB (call_max2 rfl) (by rfl) B.max boot_max (pa_cons pe_int (pa_cons (pe_op op_sub (pv 2) (pe_op op_pow pe_int pe_int)) pa_nil))) (pa_cons (pe_op op_add (pe_op op_modN (pe_callTy call_int1 (by rfl) B.int boot_tint (pa_cons (pe_op op_add (pe_op op_add (pe_op op_mul (pe_op op_modN (pe_callTy call_int1 (by rfl) B.int boot_tint (pa_cons (pv 2) pa_nil)) pe_int) pe_int) (pe_op op_mul pe_int (pv 1))) pe_int) pa_nil)) pe_int) pe_int) pa_nil)))))), ?_⟩
    refine ⟨_, rfl, _, _, rfl, rfl, .inl ⟨by decide, by decide⟩, _, _, rfl, rfl, ?_⟩
    dsimp only
    refine seq_join (fun σ H' => ∃ i : Int, σ = [some (.ref l), some (.int (k : Nat)), some (.int i)] ∧ 0 ≤ i ∧ H' = H) ?_ ?_
    · intro N hN
      refine ⟨_, rfl, _, rfl, l, _, rfl, .inl hs, _, _, rfl, rfl, _, rfl, ?_⟩
      refine ite2 (fun e => ?_) (fun e => ?_)
      · have hk2 : k < ns.length := by
          have := of_decide_eq_true e
          rw [List.length_map] at this
          omega
        refine ⟨_, rfl, _, rfl, l, _, _, .int ns[k], rfl, rfl, hs, atI_nat ?_, _, rfl, hN _ _ ⟨_, rfl, ?_, rfl⟩⟩
        · rw [List.getElem?_map, List.getElem?_eq_getElem hk2]
          rfl
        · split <;> omega
      · exact hN _ _ ⟨_, rfl, by omega, rfl⟩
    rintro σ H' ⟨i, rfl, hi, rfl⟩
    refine ⟨_, rfl, _, _, rfl, rfl, ⟨by decide, by decide, by decide⟩, _, _, rfl, rfl, _, _, rfl, ?_⟩
    refine ⟨_, rfl, .inl ⟨_, rfl, _, _, rfl, rfl, (show (2147483549 : Int) ≠ 0 by decide), _, _, rfl, rfl, .inr ⟨by decide, by decide⟩, _, rfl, _, _, rfl, rfl, .inl ⟨by decide, by decide⟩, _, _, rfl, rfl, _, _, rfl, rfl, ?_⟩⟩
    refine .inl ⟨_, rfl, _, _, rfl, rfl, (show (2147483563 : Int) ≠ 0 by decide), _, _, rfl, rfl, ?_⟩
    refine ⟨by show 2 ≤ sizeLine; decide, fun p hp => q _ p H' (same_new hp) (Same.refl _) ⟨same_new hp, hp, _, _, ?_, ?_, ?_, upd_same⟩⟩
    · split <;> omega
    · have := Int.fmod_nonneg_of_pos (i.fmod 2147483549 * 40014 + 7039 * (k : Int) + 31) (b := 2147483563) (by decide)
      omega
    · have := Int.fmod_lt_of_pos (i.fmod 2147483549 * 40014 + 7039 * (k : Int) + 31) (b := 2147483563) (by decide)
      omega
/-! _law_draw -/
def sp_draw : Sp := fun vs H Q _ => ∃ (p : Addr) (m : Int) (D : Hp), vs = [.ref p, .int m] ∧ Wd p D H ∧ 1 ≤ m ∧ m < 1073741824 ∧ ∀ (H' : Hp) (d : Int), Wd p D H' → 0 ≤ d → d < m → Q (.int d) H'
theorem sc_draw : FnScope ["_law_pot_here", "_law_size", "_law_digit"] ["_law_pot_here", "_law_size"] (defScope s_draw) := ⟨rfl, rfl, rfl, by decide +kernel, rfl, by decide +kernel, by decide +kernel⟩
theorem ok_draw {f : Addr} {fd : FuncData} (F : Fun K "_law_draw" "_law_draw" s_draw f fd) (B : Blt mg) : FnOk P w K mg base CX0 1 f fd ["_law_pot_here", "_law_size"] sp_draw := by
  refine F.ok sc_draw (fun vs H Q E h => ?_) (fun cdv A outer s H vs Q E hr h => ?_)
  · obtain ⟨p, m, D, rfl, _⟩ := h
    rfl
  · obtain ⟨p, m, D, rfl, ⟨sD, nD, a, b, ha, hb, hb2, hp⟩, m1, m2, q⟩ := h
    refine ⟨_, pss_cons (ps_if (pt_cmpR op_gt (pe_ix ix_list (pv 0) pe_int (fun _ _ => rfl)) pe_int (nomark _)) (pss_cons (ps_asg (pe_callB call_divmod (by rfl) B.divmod boot_divmod (pa_cons (pe_ix ix_list (pv 0) pe_int (fun _ _ => rfl)) (pa_cons (pv 1) pa_nil))) (pg_tup rfl (pgs_cons (pg_sub (pv 0) pe_int set_list) (pgs_cons (pg_name (i := 2) sc_draw.nd rfl (Or.inl rfl)) pgs_nil))))
        (pss_one (ps_ret (pv 2)))) pss_nil)
      (pss_cons (ps_asg (pe_op op_modN (pe_callTy call_int1 (by rfl) B.int boot_tint (pa_cons (pe_op op_add (pe_op op_mul (pe_ix ix_list (pv 0) pe_int (fun _ _ => rfl)) pe_int) pe_int) pa_nil)) pe_int) (pg_sub (pv 0) pe_int set_list))
      (pss_one (ps_ret (pe_op op_modN (pe_callTy call_int1 (by rfl) B.int boot_tint (pa_cons (pe_op op_fdivN (pe_op op_modN (pe_callTy call_int1 (by rfl) B.int boot_tint (pa_cons (pe_op op_mul (pe_ix ix_list (pv 0) pe_int (fun _ _ => rfl)) (pe_ix ix_list (pv 0) pe_int (fun _ _ => rfl))) pa_nil)) pe_int) pe_int) pa_nil)) (pv 1))))), ?_⟩
    have ix0 : atI [V.int a, V.int b] 0 = some (.int a) := rfl
    have ix1 : atI [V.int a, V.int b] 1 = some (.int b) := rfl
    refine ⟨_, rfl, p, _, _, _, rfl, rfl, SqL.mk hp, ix0, _, _, rfl, rfl, _, rfl, ?_⟩
    refine ite2 (fun e => ?_) (fun e => ?_)
    · have ha0 : 0 < a := of_decide_eq_true e
      refine ⟨_, rfl, p, _, _, _, rfl, rfl, SqL.mk hp, ix0, _, rfl, _, _, rfl, ⟨m1, m2⟩, fun t ht => ?_⟩
      have ntp : t ≠ p := (ne_of_none hp ht).symm
      refine ⟨t, _, rfl, SqT.mk upd_same, rfl, _, _, rfl, ?_⟩
      refine ⟨_, rfl, p, [V.int a, V.int b], 0, 0, rfl, rfl, ?_, rfl, ?_⟩
      · rw [upd_ne ntp.symm]
        exact hp
      refine ⟨_, _, rfl, rfl, ?_⟩
      refine ⟨_, rfl, ?_⟩
      refine q _ _ ⟨fun c o ec => ?_, nD, a / m, b, Int.ediv_nonneg ha (by omega), hb, hb2, upd_same⟩ (Int.emod_nonneg a (by omega)) (Int.emod_lt_of_pos a (by omega))
      rw [upd_ne (ne_of_none ec nD), upd_ne (ne_of_none (sD _ _ ec) ht)]
      exact sD _ _ ec
    · have hb31 : (-(2 ^ 64 : Int) < b ∧ b < 2 ^ 64) := ⟨by omega, by omega⟩
      have n87 : (2147483587 : Int) ≠ 0 := by decide
      refine ⟨_, rfl, p, _, _, _, rfl, rfl, SqL.mk hp, ix1, _, _, rfl, rfl, .inl hb31, _, _, rfl, rfl, .inl ⟨_, rfl, _, _, rfl, rfl, n87, ?_⟩⟩
      have c0 := Int.fmod_nonneg_of_pos (b * 39373 + 7039) (b := 2147483587) (by decide)
      have c1 := Int.fmod_lt_of_pos (b * 39373 + 7039) (b := 2147483587) (by decide)
      show gSub (tVar 0) (tC (.int 1)) rSetL (.int ((b * 39373 + 7039).fmod 2147483587)) _ _ _
      revert c0 c1
      generalize (b * 39373 + 7039).fmod 2147483587 = c
      intro c0 c1
      have hc31 : (-(2 ^ 64 : Int) < c ∧ c < 2 ^ 64) := ⟨by omega, by omega⟩
      refine ⟨_, rfl, p, _, 1, 1, rfl, rfl, hp, rfl, ?_⟩
      have hp2 : upd H p (.lst ([V.int a, V.int b].set 1 (.int c))) p = some (.lst [.int a, .int c]) := upd_same
      have iy1 : atI [V.int a, V.int c] 1 = some (.int c) := rfl
      refine ⟨_, rfl, p, _, _, _, rfl, rfl, SqL.mk hp2, iy1, _, rfl, p, _, _, _, rfl, rfl, SqL.mk hp2, iy1, _, _, rfl, rfl, .inl hc31, ?_⟩
      refine .inl ⟨_, rfl, _, _, rfl, rfl, (show (2147483563 : Int) ≠ 0 by decide), _, _, rfl, rfl, (show ((17 : Int) ≠ 0 ∧ (17 : Int).natAbs < 1073741824) by decide), .inl ⟨_, rfl, _, rfl, _, _, rfl, rfl, (show m ≠ 0 by omega), ?_⟩⟩
      refine q _ _ ⟨fun d o ed => ?_, nD, a, c, ha, c0, by omega, hp2⟩ (Int.fmod_nonneg_of_pos _ (by omega)) (Int.fmod_lt_of_pos _ (by omega))
      rw [upd_ne (ne_of_none ed nD)]
      exact sD _ _ ed
end
end G0

namespace G0
open PySem PySem.Spec PyProof.Rows L2
abbrev s_is_row : Stmt := top 11
abbrev s_is_counts : Stmt := top 12
abbrev s_fault : Stmt := top 9999
abbrev s_first_fault : Stmt := top 13
/-- None, or a place -/
def optV : Option Nat → V
  | none => .non
  | some i => .int (i : Nat)
def AV.num : AV → Int
  | .int n => n
  | _ => 0
def AV.isCnt : AV → Bool
  | .int n => decide (0 ≤ n)
  | _ => false
def AV.isCounts : AV → Bool
  | .seq xs => decide (0 < xs.length) && xs.all AV.isCnt
  | _ => false
def AV.isRowB : AV → Bool
  | .seq xs => decide (0 < xs.length) && xs.all AV.isCnt && (ff (xs.map AV.num)).isNone
  | _ => false
theorem AVals.ints {K : PySem.W.Frag} {H : Hp} : ∀ {vs : List V} {xs : List AV}, AVals K H vs xs → xs.all AV.isCnt = true → vs = (xs.map AV.num).map V.int
  | _, _, .nil, _ => rfl
  | _, _, .cons (x := x) h hs, a => by
    rw [List.all_cons, Bool.and_eq_true] at a
    rw [List.map_cons, List.map_cons, ← AVals.ints hs a.2]
    cases h with
    | int n => rfl
    | other => cases a.1
    | seq => cases a.1
theorem avals_ints {K : PySem.W.Frag} {H : Hp} : ∀ ns : List Int, AVals K H (ns.map V.int) (ns.map AV.int)
  | [] => .nil
  | n :: ns => .cons (.int n) (avals_ints ns)
theorem av_ints {K : PySem.W.Frag} {H : Hp} {a : Addr} {ns : List Int} (h : Sq K H a (ns.map V.int)) : AVal K H (.ref a) (.seq (ns.map AV.int)) := .seq h (avals_ints ns)
theorem cnt_ints {ns : List Int} (h : ∀ n ∈ ns, 0 ≤ n) : (ns.map AV.int).all AV.isCnt = true := by
  rw [List.all_eq_true]
  intro x hx
  obtain ⟨n, hn, rfl⟩ := List.mem_map.mp hx
  exact decide_eq_true (h n hn)
theorem back_ints (ns : List Int) : ((ns.map AV.int).map AV.num) = ns := by
  rw [List.map_map]
  exact List.map_id' ns
theorem range_getD {α β : Type} (xs : List α) (d : α) (f : α → β) : (List.range' 0 xs.length).map (fun i => f (xs.getD i d)) = xs.map f := by
  have gen : ∀ (zs : List α) (k : Nat) (ys : List α), (List.range' k zs.length).map (fun i => f ((ys ++ zs).getD i d)) = zs.map f ∨ k ≠ ys.length := by
    intro zs
    induction zs with
    | nil => intro k ys; exact .inl rfl
    | cons z zs ih =>
      intro k ys
      by_cases h : k = ys.length
      · refine .inl ?_
        rcases ih (k + 1) (ys ++ [z]) with e | e
        · rw [List.append_assoc, List.singleton_append] at e
          rw [List.length_cons, List.range'_succ, List.map_cons, List.map_cons, e, h]
          simp
        · exact absurd (by simp [h]) e
      · exact .inr h
  rcases gen xs 0 [] with h | h
  · exact h
  · exact absurd rfl h
section
variable {P : Program} {w : World} {K : PySem.W.Frag} {mg : Str → Option Value} {base : Heap}
def sp_cntA (K : PySem.W.Frag) : Sp := fun vs H Q _ => ∃ (v : V) (x : AV), vs = [v] ∧ AVal K H v x ∧ Q (.bl x.isCnt) H
theorem sc_cnt : FnScope ["value"] ["value"] (defScope s_is_count) := ⟨rfl, rfl, rfl, by decide +kernel, rfl, by decide +kernel, by decide +kernel⟩
theorem ok_cntA {f f1 : Addr} {fd fd1 : FuncData} (F : Fun K "is_count" "is_count" s_is_count f fd) (Dint : Df K mg "is_integer" s_is_integer ["value"] f1 fd1) (Gint : FnOk P w K mg base CX0 1 f1 fd1 ["value"] (sp_intA K)) : FnOk P w K mg base CX0 2 f fd ["value"] (sp_cntA K) := by
  refine F.ok sc_cnt (fun vs H Q E h => ?_) (fun cdv A outer s H vs Q E hr h => ?_)
  · obtain ⟨v, x, rfl, _⟩ := h
    rfl
  · obtain ⟨v, x, rfl, hv, q⟩ := h
    refine ⟨_, pss_one (ps_ret (pe_and (pdf Dint Gint hr (pa_cons (pv 0) pa_nil)) (pe_one (pe_cmpR op_ge (pv 0) pe_int (nomark _))))), ?_⟩
    refine ⟨_, rfl, v, x, rfl, hv, _, rfl, ?_⟩
    cases hv with
    | int n => exact iteT ⟨_, rfl, _, _, rfl, rfl, q⟩
    | other => exact iteF q
    | seq => exact iteF q
def sp_countsA (K : PySem.W.Frag) : Sp := fun vs H Q _ => ∃ (v : V) (x : AV), vs = [v] ∧ AVal K H v x ∧ (∀ xs, x = .seq xs → xs.length < 1000000) ∧ ∀ H', Same H H' → Q (.bl x.isCounts) H'
theorem sc_counts : FnScope ["value", "number"] ["value"] (defScope s_is_counts) := ⟨rfl, rfl, rfl, by decide +kernel, rfl, by decide +kernel, by decide +kernel⟩
theorem ok_countsA {f f1 f2 : Addr} {fd fd1 fd2 : FuncData} (F : Fun K "is_counts" "is_counts" s_is_counts f fd) (B : Blt mg) (Dlst : Df K mg "is_list" s_is_list ["value"] f1 fd1) (Glst : FnOk P w K mg base CX0 1 f1 fd1 ["value"] (sp_listA K))
    (Dcnt : Df K mg "is_count" s_is_count ["value"] f2 fd2) (Gcnt : FnOk P w K mg base CX0 2 f2 fd2 ["value"] (sp_cntA K)) : FnOk P w K mg base CX0 3 f fd ["value"] (sp_countsA K) := by
  refine F.ok sc_counts (fun vs H Q E h => ?_) (fun cdv A outer s H vs Q E hr h => ?_)
  · obtain ⟨v, x, rfl, _⟩ := h
    rfl
  · obtain ⟨v, x, rfl, hv, ok, q⟩ := h
    have r1 : Room 1 _ := hr.mono (by decide)
    refine ⟨_, pss_one (ps_ret (pe_and (pdf Dlst Glst r1 (pa_cons (pv 0) pa_nil)) (pe_and (pe_cmpR op_gt (pe_callB call_len_seq (by rfl) B.len PySem.boot_len (pa_cons (pv 0) pa_nil)) pe_int (nomark _)) (pe_one (pe_callB (cr_all rfl) (by rfl) B.all boot_all (pa_cons (pe_lc (own := [("number", 1)]) (g := gName 1) (tt := tYes) rfl sc_counts.nd (pi_any (pv 0)) (blkOk_by (N := ["value", "number"]) (sc := defScope s_is_counts) (by decide +kernel)) (fun _ _ _ _ _ => pg_name (i := 1) sc_counts.nd rfl (Or.inl rfl)) (fun _ _ _ _ _ => pts_nil) (fun _ _ _ _ _ => (pdf Dcnt Gcnt hr (pa_cons (pv 1) pa_nil)))) pa_nil)))))), ?_⟩
    refine ⟨_, rfl, v, x, rfl, hv, fun H1 s1 => ⟨_, rfl, ?_⟩⟩
    cases hv with
    | int n => exact iteF (q _ s1)
    | other => exact iteF (q _ s1)
    | @seq a vs xs hs hq =>
      refine iteT ?_
      have lv := AVals.len hq
      have hl := ok _ rfl
      have hs1 := hs.same s1
      refine ⟨_, rfl, a, vs, rfl, hs1, _, _, rfl, rfl, _, rfl, ?_⟩
      by_cases h0 : 0 < xs.length
      · rw [decide_eq_true (show (0 : Int) < ((vs.length : Nat) : Int) by omega)]
        refine iteT ?_
        let FX : Nat → V := fun i => V.bl (xs.getD i .other).isCnt
        have turn : ∀ i u, vs[i]? = some u → AVal K H u (xs.getD i .other) := by
          intro i u hi
          obtain ⟨y, hy, av⟩ := AVals.at hq hi
          rw [List.getD_eq_getElem?_getD, hy]
          exact av
        have fin : ∀ H3 : Hp, Same H1 H3 → ∀ D : Addr, H3 D = some (.lst ((List.range' 0 vs.length).map FX)) → ∃ (a : Addr) (bs : List Bool), [V.ref D] = [V.ref a] ∧ SqL K H3 a (bs.map V.bl) ∧ Q (.bl (bs.all id)) H3 := by
          intro H3 s3 D hD
          rw [lv, range_getD xs .other fun x => V.bl x.isCnt] at hD
          refine ⟨D, xs.map AV.isCnt, rfl, SqL.mk ?_, ?_⟩
          · rw [hD, List.map_map]
            rfl
          · have e : (xs.map AV.isCnt).all id = AV.isCounts (.seq xs) := by
              show _ = (decide (0 < xs.length) && xs.all AV.isCnt)
              rw [decide_eq_true h0, Bool.true_and, List.all_map]
              rfl
            rw [e]
            exact q _ (s1.trans s3)
        rcases hs1 with hs1 | hs1
        · refine .inl ⟨_, rfl, a, rfl, ⟨_, hs1⟩, fun D hD => lcI FX hs1 (by rw [lv]; exact Nat.lt_of_lt_of_le hl (by decide)) hD (fun i u hu H3 s3 G N gk => ⟨rfl, yes_ite ?_⟩) fun H3 s3 h3 => fin H3 s3 D h3⟩
          exact ⟨_, rfl, u, _, rfl, (turn i u hu).same (s1.trans s3), gk _ (Same.refl _)⟩
        · refine .inr ⟨_, rfl, a, rfl, ⟨_, hs1⟩, fun D hD => lcIT FX hs1 (by rw [lv]; exact Nat.lt_of_lt_of_le hl (by decide)) hD (fun i u hu H3 s3 G N gk => ⟨rfl, yes_ite ?_⟩) fun H3 s3 h3 => fin H3 s3 D h3⟩
          exact ⟨_, rfl, u, _, rfl, (turn i u hu).same (s1.trans s3), gk _ (Same.refl _)⟩
      · rw [decide_eq_false (show ¬ (0 : Int) < ((vs.length : Nat) : Int) by omega)]
        refine iteF ?_
        have e : AV.isCounts (.seq xs) = false := by
          show (decide (0 < xs.length) && xs.all AV.isCnt) = false
          rw [decide_eq_false h0]
          rfl
        rw [← e]
        exact q _ s1
theorem and_v {ta tb : TE} {σ : L2.St} {H : Hp} {Q : VK} (k1 k2 : Bool) (ha : ∀ R : VK, R (.bl k1) H → ta σ H R) (hb : k1 = true → ∀ R : VK, R (.bl k2) H → tb σ H R) (q : Q (.bl (k1 && k2)) H) : tAndV ta tb σ H Q := by
  refine ha _ ⟨_, rfl, ?_⟩
  cases k1 with
  | false => exact iteF q
  | true => exact iteT (hb rfl _ q)
/-! first_fault -/
def sp_first (K : PySem.W.Frag) : Sp := fun vs H Q _ => ∃ (a : Addr) (ns : List Int), vs = [.ref a] ∧ Sq K H a (ns.map V.int) ∧ ∀ H', Same H H' → Q (optV (ff ns)) H'
theorem sc_first : FnScope ["counts", "ahead", "total", "place", "number", "rises"] ["counts"] (defScope s_first_fault) := ⟨rfl, rfl, rfl, by decide +kernel, rfl, by decide +kernel, by decide +kernel⟩
theorem ok_first {f : Addr} {fd : FuncData} (F : Fun K "first_fault" "first_fault" s_first_fault f fd) (B : Blt mg) {t1 t2 : Tok} (m9 : mg "MOST_PLACES" = some (.int 9 t1)) (m24 : mg "MOST_SUM" = some (.int 24 t2)) : FnOk P w K mg base CX0 1 f fd ["counts"] (sp_first K) := by
  refine F.ok sc_first (fun vs H Q E h => ?_) (fun cdv A outer s H vs Q E hr h => ?_)
  · obtain ⟨a, ns, rfl, _⟩ := h
    rfl
  · obtain ⟨a, ns, rfl, hs, q⟩ := h
    obtain ⟨kind, hk⟩ := hs.kind
    refine ⟨_, pss_cons (ps_asg (pe_tup (pa_cons pe_int (pa_cons pe_int pa_nil))) (pg_tup rfl (pgs_cons (pg_name (i := 1) sc_first.nd rfl (.inl rfl)) (pgs_cons (pg_name (i := 2) sc_first.nd rfl (.inl rfl)) pgs_nil))))
      (pss_cons (ps_for PassesOwn.never rfl (pi_E kind (by rfl) B.enumerate (pa_cons (pv 0) pa_nil)) (pg_tup rfl (pgs_cons (pg_name (i := 3) sc_first.nd rfl (Or.inl rfl)) (pgs_cons (pg_name (i := 4) sc_first.nd rfl (Or.inl rfl)) pgs_nil))) (pss_cons (ps_aug (i := 2) sc_first.nd rfl (Or.inl rfl) (pv 4) ip_add)
        (pss_cons (ps_set (i := 5) sc_first.nd rfl (Or.inl rfl) (pe_and (pe_cmpR op_eq (pv 1) (pv 3) (nomark _)) (pe_one (pe_cmpR op_eq (pv 4) (pe_op op_add (pv 3) pe_int) (nomark _)))))
        (pss_cons (ps_if (PW.pt (pw_or (pt_cmpR op_eq (pv 3) (pe_glob (v := V.int 9) rfl m9 ⟨_, rfl⟩) (nomark _)) (pw_or (pt_cmpR op_gt (pv 2) (pe_glob (v := V.int 24) rfl m24 ⟨_, rfl⟩) (nomark _)) (pw_or1 (pt_not (PW.pt (pw_or (pt_val (pv 5)) (pw_or1 (pt_chain op_lt op_le pe_int (pv 4) (pv 1)))))))))) (pss_one (ps_ret (pv 3))) pss_nil)
        (pss_one (ps_set (i := 1) sc_first.nd rfl (Or.inl rfl) (pv 4)))))))
      (pss_one (ps_ret pe_non))), ?_⟩
    refine ⟨by show 2 ≤ sizeLine; decide, fun t0 ht0 => ?_⟩
    have s0 := same_new (o := .tup [.int 0, .int 0]) ht0
    refine ⟨t0, _, rfl, SqT.mk upd_same, rfl, _, _, rfl, _, _, rfl, rfl, ?_⟩
    refine ⟨_, rfl, a, ns.map V.int, rfl, hk.same s0, for_it (walk_E (b := kind) (xs := ns.map V.int)) (fun i σ H2 => ∃ y3 y4 y5, σ = [some (.ref a), some (.int (lastI 0 (ns.take i))), some (.int (ns.take i).sum), y3, y4, y5] ∧ Same H H2 ∧ ff (ns.take i) = none) ⟨none, none, none, rfl, s0, rfl⟩ ?_ ?_ ?_⟩
    · rintro i σ H2 _ ⟨y3, y4, y5, rfl, s2, _⟩
      exact hk.same s2
    · rintro i y σ H2 H3 hi ⟨y3, y4, y5, rfl, s2, h0⟩ ⟨Tp, z1, z2, rfl, nT, rfl, ez1, ez2⟩
      cases ez1
      have hl : i < ns.length := by rw [List.length_map] at hi; exact hi
      have en : ns[i]? = some ns[i] := List.getElem?_eq_getElem hl
      have ez3 : (ns.map V.int)[i]? = some z2 := ez2
      rw [List.getElem?_map, en] at ez3
      cases ez3
      clear ez2
      revert en
      generalize ns[i] = n
      intro en
      have sT : Same H2 (upd H2 Tp (.tup [.int (i : Nat), .int n])) := same_new nT
      refine ⟨Tp, _, rfl, SqT.mk upd_same, rfl, _, _, rfl, _, _, rfl, rfl, ?_⟩
      have sA := s2.trans sT
      have fe := ff_take en h0
      have se : (ns.take (i + 1)).sum = (ns.take i).sum + n := by rw [List.take_add_one, en]; simp
      have le : lastI 0 (ns.take (i + 1)) = n := by rw [List.take_add_one, en]; exact lastI_snoc ..
      revert h0 fe se
      generalize lastI 0 (ns.take i) = a'
      generalize (ns.take i).sum = t'
      intro h0 fe se
      have bad : ∀ H', Same H H' → ¬ okStep i a' t' n → Q (.int (i : Nat)) H' := fun H' s' no => by
        rw [if_neg no] at fe
        have := q _ s'
        rw [ff_stop fe] at this
        exact this
      refine ⟨_, rfl, _, rfl, _, _, rfl, rfl, ?_⟩
      dsimp only
      show tAndV _ _ _ _ _
      refine and_v (decide (V.int a' = V.int (i : Nat))) (decide (V.int n = V.int ((i : Nat) + 1))) (fun R r => ⟨_, rfl, _, rfl, rfl, r⟩) (fun _ R r => ⟨_, rfl, _, rfl, _, _, rfl, rfl, rfl, r⟩) ?_
      have er : (decide (V.int a' = V.int (i : Nat)) && decide (V.int n = V.int ((i : Nat) + 1))) = decide (a' = (i : Int) ∧ n = (i : Int) + 1) := by
        simp
      rw [er]
      refine ⟨_, rfl, rfl, _, rfl, ?_⟩
      by_cases p9 : i = 9
      · rw [decide_eq_true (show V.int (i : Nat) = V.int 9 by rw [p9]; rfl)]
        exact iteT ⟨_, rfl, bad _ sA fun o => o.1 p9⟩
      · rw [decide_eq_false (show ¬ V.int (i : Nat) = V.int 9 from fun z => p9 (by have := V.int.inj z; omega))]
        refine iteF ⟨_, rfl, _, _, rfl, rfl, _, rfl, ?_⟩
        by_cases p24 : 24 < t' + n
        · rw [decide_eq_true p24]
          exact iteT ⟨_, rfl, bad _ sA fun o => by have := o.2.1; omega⟩
        · rw [decide_eq_false p24]
          refine iteF ⟨_, rfl, _, rfl, ?_⟩
          have good : okStep i a' t' n → ff (ns.take (i + 1)) = none := fun o => by rw [fe, if_pos o]
          by_cases pr : a' = (i : Int) ∧ n = (i : Int) + 1
          · rw [decide_eq_true pr]
            refine iteT (iteF ?_)
            exact ⟨_, rfl, _, _, _, by rw [le, se]; rfl, sA, good ⟨p9, by omega, .inl pr⟩⟩
          · rw [decide_eq_false pr]
            refine iteF ?_
            refine ⟨_, rfl, _, _, rfl, rfl, _, rfl, ?_⟩
            by_cases n0 : 0 < n
            · rw [decide_eq_true n0]
              refine iteT ⟨_, rfl, _, _, rfl, rfl, _, rfl, ?_⟩
              by_cases na : n ≤ a'
              · rw [decide_eq_true na]
                refine iteF ?_
                exact ⟨_, rfl, _, _, _, by rw [le, se]; rfl, sA, good ⟨p9, by omega, .inr ⟨n0, na⟩⟩⟩
              · rw [decide_eq_false na]
                refine iteT ?_
                exact ⟨_, rfl, bad _ sA fun o => o.2.2.elim pr fun z => na z.2⟩
            · rw [decide_eq_false n0]
              refine iteF ⟨_, rfl, iteT ?_⟩
              exact ⟨_, rfl, bad _ sA fun o => o.2.2.elim pr fun z => n0 z.1⟩
    · rintro σ H2 ⟨y3, y4, y5, rfl, s2, h0⟩
      rw [List.length_map, List.take_length] at h0
      have := q _ s2
      rw [h0] at this
      exact this
end
end G0

namespace G0
open PySem PySem.Spec PyProof.Rows L2
section
variable {P : Program} {w : World} {K : PySem.W.Frag} {mg : Str → Option Value} {base : Heap}
def sp_rowA (K : PySem.W.Frag) : Sp := fun vs H Q _ => ∃ (v : V) (x : AV), vs = [v] ∧ AVal K H v x ∧ (∀ xs, x = .seq xs → xs.length < 1000000) ∧ ∀ H', Same H H' → Q (.bl x.isRowB) H'
theorem optV_non (o : Option Nat) : decide (optV o = .non) = o.isNone := by
  cases o <;> simp [optV]
theorem sc_isrow : FnScope ["value"] ["value"] (defScope s_is_row) := ⟨rfl, rfl, rfl, by decide +kernel, rfl, by decide +kernel, by decide +kernel⟩
theorem ok_rowA {f f1 f2 : Addr} {fd fd1 fd2 : FuncData} (F : Fun K "is_row" "is_row" s_is_row f fd) (Dcs : Df K mg "is_counts" s_is_counts ["value"] f1 fd1) (Gcs : FnOk P w K mg base CX0 3 f1 fd1 ["value"] (sp_countsA K))
    (Dff : Df K mg "first_fault" s_first_fault ["counts"] f2 fd2) (Gff : FnOk P w K mg base CX0 1 f2 fd2 ["counts"] (sp_first K)) : FnOk P w K mg base CX0 4 f fd ["value"] (sp_rowA K) := by
  refine F.ok sc_isrow (fun vs H Q E h => ?_) (fun cdv A outer s H vs Q E hr h => ?_)
  · obtain ⟨v, x, rfl, _⟩ := h
    rfl
  · obtain ⟨v, x, rfl, hv, ok, q⟩ := h
    have r1 : Room 1 _ := hr.mono (by decide)
    refine ⟨_, pss_one (ps_ret (pe_and (pdf Dcs Gcs hr (pa_cons (pv 0) pa_nil)) (pe_one (pe_cmpR op_isN (pdf Dff Gff r1 (pa_cons (pv 0) pa_nil)) pe_non (nomark _))))), ?_⟩
    refine ⟨_, rfl, v, x, rfl, hv, ok, fun H1 s1 => ⟨_, rfl, ?_⟩⟩
    cases hv with
    | int n => exact iteF (q _ s1)
    | other => exact iteF (q _ s1)
    | @seq a vs xs hs hq =>
      cases hc : AV.isCounts (.seq xs) with
      | false =>
        refine iteF ?_
        have e : AV.isRowB (.seq xs) = false := by
          show (AV.isCounts (.seq xs) && _) = false
          rw [hc]
          rfl
        rw [← e]
        exact q _ s1
      | true =>
        have hc' : (decide (0 < xs.length) && xs.all AV.isCnt) = true := hc
        rw [Bool.and_eq_true] at hc'
        have ev := AVals.ints hq hc'.2
        have hs1 := hs.same s1
        rw [ev] at hs1
        refine iteT ⟨_, rfl, a, _, rfl, hs1, fun H2 s2 => ⟨rfl, ?_⟩⟩
        rw [optV_non]
        have e : AV.isRowB (.seq xs) = (ff (xs.map AV.num)).isNone := by
          show (AV.isCounts (.seq xs) && _) = _
          rw [hc]
          rfl
        rw [← e]
        exact q _ (s1.trans s2)
end
end G0

namespace G0
open PySem PySem.Spec PyProof.Rows L2
abbrev s_lrow : Stmt := top 24
abbrev s_passed : Stmt := top 25
section
variable {X : Cx}
/-! list(range(a, b)) -/
theorem cr_range2 : CallR X (.type "range") (fun vs H Q => ∃ i j, vs = [V.int i, V.int j] ∧ ∀ p, H p = none → Q (.ref p) (upd H p (.rng i j))) := by
  intro pins s σ H vs us Q J r h
  obtain ⟨i, j, rfl, q⟩ := h
  obtain ⟨u, v, rfl, ⟨t, rfl⟩, ⟨t2, rfl⟩⟩ := vals2 r
  refine call_range_2 ⟨.ref s.heap.objs.size, upd H s.heap.objs.size (.rng i j), J.laid (t' := s.toks + 1) (fun b o e => Heap.get?_push_of_some _ e) (Nat.le_refl _) ?_, rfl, q _ (J.hok.fresh (Nat.le_refl _))⟩
  exact ⟨t, t2, s.toks, Heap.get?_push_size _ rfl⟩
theorem cr_range1 : CallR X (.type "range") (fun vs H Q => ∃ j, vs = [V.int j] ∧ ∀ p, H p = none → Q (.ref p) (upd H p (.rng 0 j))) := by
  intro pins s σ H vs us Q J r h
  obtain ⟨j, rfl, q⟩ := h
  obtain ⟨u, rfl, t, rfl⟩ := vals1 r
  refine call_range_1 ⟨.ref s.heap.objs.size, upd H s.heap.objs.size (.rng 0 j), J.laid (t' := s.toks + 1 + 1) (fun b o e => Heap.get?_push_of_some _ e) (Nat.le_refl _) ?_, rfl, q _ (J.hok.fresh (Nat.le_refl _))⟩
  exact ⟨s.toks, t, s.toks + 1, Heap.get?_push_size _ rfl⟩
theorem vals_from : ∀ (n : Nat) {acc : List Value} (k : Nat), acc.length = n → (∀ j v, acc[j]? = some v → ∃ t, v = Value.int ((k + j : Nat) : Int) t) → Vals ((List.range' k n).map fun i => V.int (i : Nat)) acc
  | 0, acc, k, h, _ => by
    rw [List.length_eq_zero_iff.mp h]
    exact .nil
  | n + 1, [], k, h, _ => by cases h
  | n + 1, v :: acc, k, h, all => by
    obtain ⟨t, e⟩ := all 0 v rfl
    rw [List.range'_succ]
    refine .cons ⟨t, e⟩ (vals_from n (k + 1) (Nat.succ.inj h) fun j u hj => ?_)
    obtain ⟨t2, e2⟩ := all (j + 1) u hj
    exact ⟨t2, by rw [e2]; congr 1; omega⟩
theorem cr_listRng2 (calm : X.calm = true) : CallR X (.type "list") (fun vs H Q => ∃ (r : Addr) (k n : Nat) (lo hi : Int), vs = [V.ref r] ∧ H r = some (.rng lo hi) ∧ lo = (k : Nat) ∧ hi = ((k + n : Nat) : Int) ∧ n ≤ 1000 ∧ k ≤ 1000 ∧ ∀ l, H l = none → Q (.ref l) (upd H l (.lst ((List.range' k n).map fun i => V.int (i : Nat))))) := by
  intro pins s σ H vs us Q J rv h
  obtain ⟨r, k, n, lo, hi, rfl, hr, rfl, rfl, hn, hk, q⟩ := h
  obtain ⟨u, rfl, ru⟩ := vals1 rv
  cases ru
  obtain ⟨t, u, v, look⟩ := (show ∃ t u v, s.heap.get? r = some { cls := .type "range", data := .fields #[.int (k : Nat) t, .int ((k + n : Nat) : Int) u, .int 1 v] } from J.hok r _ hr)
  refine call_list_range (n := n) (J.ok.hd calm) look ?_ ?_ (by omega) fun h2 tk acc c2 kept hS items => ?_
  · exact small_one (by omega) (by omega) (by omega) (by omega)
  · rw [rangeSize_nat]
    omega
  · obtain ⟨size, each⟩ := items
    have fr : H s.heap.objs.size = none := J.hok.fresh (Nat.le_refl _)
    refine ⟨.ref s.heap.objs.size, upd H s.heap.objs.size (.lst ((List.range' k n).map fun i => V.int (i : Nat))), J.laid (t' := tk) kept (Nat.le_refl _) ⟨?_, acc.toList, c2, ?_, hS⟩, rfl, q _ fr⟩
    · rw [List.length_map, List.length_range']
      exact Nat.le_trans hn (by decide)
    · refine vals_from n k (by simpa using size) fun j v hj => ?_
      obtain ⟨t, e⟩ := each j v (by simpa using hj)
      exact ⟨t, by rw [e]; congr 1; omega⟩
end
theorem range_ints (k n : Nat) : ((List.range' k n).map fun i => V.int (i : Nat)) = ((List.range' k n).map fun i => ((i : Nat) : Int)).map V.int := by rw [List.map_map]; rfl
theorem at_last {ns : List Int} {n : Int} : atI ((ns ++ [n]).map V.int) (-1) = some (.int n) := by
  unfold atI ixN
  rw [if_neg (by decide), List.length_map, List.length_append, if_pos (by simp; omega)]
  show ((ns ++ [n]).map V.int)[_]? = _
  rw [show ((-1 : Int) + ((ns.length + [n].length : Nat) : Int)).toNat = ns.length by simp; omega]
  simp
/-- what _law_row hands back -/
def RowAt (v : V) (D : Hp) : Prop := ∃ L ns, v = .ref L ∧ D L = some (.lst (ns.map V.int)) ∧ ns ≠ [] ∧ ff ns = none
section
variable {P : Program} {w : World} {K : PySem.W.Frag} {mg : Str → Option Value} {base : Heap}
/-! _law_passed -/
def sp_passed (K : PySem.W.Frag) : Sp := fun vs H Q _ => ∃ (p l : Addr) (D : Hp) (us : List V), vs = [.ref p, .ref l] ∧ Wd p D H ∧ SqL K D l us ∧ Gets p D (fun v D' => ∃ q, v = .ref q ∧ Sq K D' q us ∧ D q = none) Q
theorem sc_passed : FnScope ["_law_pot_here", "_law_numbers"] ["_law_pot_here", "_law_numbers"] (defScope s_passed) := ⟨rfl, rfl, rfl, by decide +kernel, rfl, by decide +kernel, by decide +kernel⟩
theorem ok_passed {f f1 : Addr} {fd fd1 : FuncData} (F : Fun K "_law_passed" "_law_passed" s_passed f fd) (B : Blt mg) (Ddraw : Df K mg "_law_draw" s_draw ["_law_pot_here", "_law_size"] f1 fd1) (Gdraw : FnOk P w K mg base CX0 1 f1 fd1 ["_law_pot_here", "_law_size"] sp_draw) :
    FnOk P w K mg base CX0 2 f fd ["_law_pot_here", "_law_numbers"] (sp_passed K) := by
  refine F.ok sc_passed (fun vs H Q E h => ?_) (fun cdv A outer s H vs Q E hr h => ?_)
  · obtain ⟨p, l, D, us, rfl, _⟩ := h
    rfl
  · obtain ⟨p, l, D, us, rfl, wd, hs, q⟩ := h
    refine ⟨_, pss_one (ps_ret (pe_ifExp (pt_cmpR op_eq (pdf Ddraw Gdraw hr (pa_cons (pv 0) (pa_cons pe_int pa_nil))) pe_int (nomark _)) (pe_callTy call_tuple_of (by rfl) B.tuple boot_ttuple (pa_cons (pv 1) pa_nil)) (pe_callTy call_list_of (by rfl) B.list boot_tlist (pa_cons (pv 1) pa_nil)))), ?_⟩
    refine ⟨_, rfl, p, 2, D, rfl, wd, by decide, by decide, fun H1 d w1 d0 d1 => ⟨rfl, _, rfl, ?_⟩⟩
    refine ite2 (fun e => ?_) (fun e => ?_)
    · refine ⟨_, rfl, l, us, rfl, .inl ⟨w1.s.seq hs, fun t ht => ?_⟩⟩
      obtain ⟨w3, s3, h3⟩ := w1.new (same_new ht) ht upd_same
      exact q _ _ _ s3 w3 ⟨t, rfl, .inr (SqT.mk h3), w1.s.free ht⟩
    · refine ⟨_, rfl, l, us, rfl, .inl (w1.s.seq hs), fun t ht => ?_⟩
      obtain ⟨w3, s3, h3⟩ := w1.new (same_new ht) ht upd_same
      exact q _ _ _ s3 w3 ⟨t, rfl, .inl (SqL.mk h3), w1.s.free ht⟩
/-! _law_row -/
def sp_lrow : Sp := fun vs H Q _ => ∃ (p : Addr) (D : Hp), vs = [.ref p, .int 24] ∧ Wd p D H ∧ Gets p D RowAt Q
theorem sc_lrow : FnScope ["_law_pot_here", "_law_most", "_law_rise", "_law_turn", "_law_found", "_law_room"] ["_law_pot_here", "_law_most"] (defScope s_lrow) := ⟨rfl, rfl, rfl, by decide +kernel, rfl, by decide +kernel, by decide +kernel⟩
theorem ok_lrow {f f1 : Addr} {fd fd1 : FuncData} (F : Fun K "_law_row" "_law_row" s_lrow f fd) (B : Blt mg) (Ddraw : Df K mg "_law_draw" s_draw ["_law_pot_here", "_law_size"] f1 fd1) (Gdraw : FnOk P w K mg base CX0 1 f1 fd1 ["_law_pot_here", "_law_size"] sp_draw) :
    FnOk P w K mg base CX0 2 f fd ["_law_pot_here", "_law_most"] sp_lrow := by
  refine F.ok sc_lrow (fun vs H Q E h => ?_) (fun cdv A outer s H vs Q E hr h => ?_)
  · obtain ⟨p, D, rfl, _⟩ := h
    rfl
  · obtain ⟨p, D, rfl, wd, q⟩ := h
    refine ⟨_, pss_cons (ps_set (i := 2) sc_lrow.nd rfl (Or.inl rfl) (pe_op op_add pe_int (pdf Ddraw Gdraw hr (pa_cons (pv 0) (pa_cons pe_int pa_nil)))))
      (pss_cons (ps_for PassesOwn.never rfl (pi_range1 (by rfl) B.range (pa_cons pe_int pa_nil)) (pg_name (i := 3) sc_lrow.nd rfl (Or.inl rfl)) (pss_one (ps_if (pt_cmpR op_gt (pe_op op_fdivN (pe_op op_mul (pv 2) (pe_op op_add (pv 2) pe_int)) pe_int) (pv 1) (nomark _)) (pss_one (ps_set (i := 2) sc_lrow.nd rfl (Or.inl rfl) (pe_op op_sub (pv 2) pe_int))) pss_nil)))
      (pss_cons (ps_set (i := 4) sc_lrow.nd rfl (Or.inl rfl) (pe_callTy (cr_listRng2 rfl) (by rfl) B.list boot_tlist (pa_cons (pe_callTy cr_range2 (by rfl) B.range boot_trange (pa_cons pe_int (pa_cons (pe_op op_add (pv 2) pe_int) pa_nil))) pa_nil)))
      (pss_cons (ps_for PassesOwn.never rfl (pi_range1 (by rfl) B.range (pa_cons (pdf Ddraw Gdraw hr (pa_cons (pv 0) (pa_cons pe_int pa_nil))) pa_nil)) (pg_name (i := 3) sc_lrow.nd rfl (Or.inl rfl)) (pss_cons (ps_set (i := 5) sc_lrow.nd rfl (Or.inl rfl) (pe_callB (call_min2 rfl) (by rfl) B.min boot_min (pa_cons (pe_ix ix_list (pv 4) (pe_un un_neg pe_int) (fun _ _ => rfl)) (pa_cons (pe_op op_sub (pv 1) (pe_callB (cr_sum rfl) (by rfl) B.sum boot_sum (pa_cons (pv 4) pa_nil))) pa_nil))))
        (pss_cons (ps_if (PW.pt (pw_or (pt_cmpR op_lt (pv 5) pe_int (nomark _)) (pw_or1 (pt_cmpR op_eq (pe_callB call_len_seq (by rfl) B.len PySem.boot_len (pa_cons (pv 4) pa_nil)) pe_int (nomark _))))) (pss_one (ps_ret (pv 4))) pss_nil)
        (pss_one (ps_expr (pe_bm PySem.F.plainAttrs_list PySem.F.slot_list_append PySem.F.type_list_append mt_append (pv 4) (pa_cons (pe_op op_add pe_int (pdf Ddraw Gdraw hr (pa_cons (pv 0) (pa_cons (pv 5) pa_nil)))) pa_nil)))))))
      (pss_one (ps_ret (pv 4)))))), ?_⟩
    refine ⟨_, rfl, p, 6, D, rfl, wd, by decide, by decide, fun H1 d w1 d0 d1 => ⟨_, _, rfl, rfl, ?_⟩⟩
    have hr6 : ∃ k : Nat, 1 + d = (k : Int) ∧ 1 ≤ k ∧ k ≤ 6 := ⟨(1 + d).toNat, by omega, by omega, by omega⟩
    obtain ⟨k, ek, k1, k6⟩ := hr6
    have small : ¬ (24 : Int) < ((k : Int) * ((k : Int) + 1)).fdiv 2 := by
      have : k = 1 ∨ k = 2 ∨ k = 3 ∨ k = 4 ∨ k = 5 ∨ k = 6 := by omega
      rcases this with rfl | rfl | rfl | rfl | rfl | rfl <;> decide
    have ff0 : ff ((List.range' 1 k).map fun i => ((i : Nat) : Int)) = none := by
      have : k = 1 ∨ k = 2 ∨ k = 3 ∨ k = 4 ∨ k = 5 ∨ k = 6 := by omega
      rcases this with rfl | rfl | rfl | rfl | rfl | rfl <;> decide
    dsimp only
    rw [ek]
    refine ⟨6, rfl, by decide, by decide, for_range (n := 6) (fun i σ H2 => ∃ y3, σ = [some (.ref p), some (.int 24), some (.int (k : Nat)), y3, none, none] ∧ H2 = H1) ⟨none, rfl, rfl⟩ ?_ ?_⟩
    · rintro i σ H2 hi ⟨y3, rfl, rfl⟩
      refine ⟨_, rfl, _, rfl, _, _, rfl, rfl, _, _, rfl, rfl, .inl ⟨by omega, by omega⟩, _, _, rfl, rfl, (show ((2 : Int) ≠ 0 ∧ (2 : Int).natAbs < 1073741824) by decide), _, rfl, _, _, rfl, rfl, _, rfl, ?_⟩
      rw [decide_eq_false small]
      exact iteF ⟨_, rfl, rfl⟩
    · rintro σ H2 ⟨y3, rfl, rfl⟩
      -- found = list(range(1, rise + 1))
      refine ⟨_, rfl, _, _, rfl, rfl, _, _, rfl, fun r hr2 => ?_⟩
      have s1 := same_new (o := .rng 1 ((k : Int) + 1)) hr2
      refine ⟨r, 1, k, _, _, rfl, upd_same, rfl, by omega, by omega, by omega, fun L hL => ?_⟩
      rw [range_ints]
      have L0 := (w1.pure s1).s.free hL
      have Lp := (w1.pure s1).ne hL
      have w2 := (w1.pure s1).over (o := .lst (((List.range' 1 k).map fun i => ((i : Nat) : Int)).map V.int)) L0 Lp
      revert w2
      have hLL : (upd (upd H2 r (.rng 1 ((k : Int) + 1))) L (.lst (((List.range' 1 k).map fun i => ((i : Nat) : Int)).map V.int))) L = some (.lst (((List.range' 1 k).map fun i => ((i : Nat) : Int)).map V.int)) := upd_same
      have ne0 : ((List.range' 1 k).map fun i => ((i : Nat) : Int)) ≠ [] := by
        intro z
        have := congrArg List.length z
        rw [List.length_map, List.length_range'] at this
        simp at this
        omega
      revert hLL ne0 ff0
      generalize ((List.range' 1 k).map fun i => ((i : Nat) : Int)) = ns0
      generalize (upd (upd H2 r (.rng 1 ((k : Int) + 1))) L (.lst (ns0.map V.int))) = H3
      intro ff0 hLL ne0 w2
      -- for turn in range(draw(pot, 8))
      have w3 := w2.got L0 Lp hLL
      refine ⟨_, rfl, p, 8, _, rfl, w3, by decide, by decide, fun H4 d2 w4 e0 e1 => ⟨d2, rfl, by omega, by omega, for_range (n := d2.toNat) (fun i σ H5 => ∃ (ns : List Int) (y3 y5 : Option V), σ = [some (.ref p), some (.int 24), some (.int (k : Nat)), y3, some (.ref L), y5] ∧ Wd p (upd D L (.lst (ns.map V.int))) H5 ∧ ns ≠ [] ∧ ff ns = none) ⟨ns0, _, none, rfl, w4, ne0, ff0⟩ ?_ ?_⟩⟩
      · rintro i σ H5 hi ⟨ns, y3, y5, rfl, w5, ne, hf⟩
        obtain ⟨r1, r2, r3, r4⟩ := (row_iff ns).mpr hf
        have hL5 : H5 L = some (.lst (ns.map V.int)) := w5.s _ _ upd_same
        obtain ⟨ys, a, rfl⟩ := (snoc_cases ns).resolve_left ne
        refine ⟨_, rfl, _, rfl, L, _, _, _, rfl, rfl, SqL.mk hL5, at_last, ?_⟩
        refine ⟨_, rfl, _, rfl, L, _, rfl, SqL.mk hL5, _, _, rfl, rfl, _, _, rfl, ?_⟩
        have a0 : 0 < a := r2 a (by simp)
        have a9 : a ≤ ((ys ++ [a]).length : Nat) := row_le ⟨r1, r2, r3, r4⟩ a (by simp)
        obtain ⟨m, hm, ma, ms⟩ : ∃ m : Int, (if 24 - (ys ++ [a]).sum < a then 24 - (ys ++ [a]).sum else a) = m ∧ m ≤ a ∧ m ≤ 24 - (ys ++ [a]).sum := ⟨_, rfl, by split <;> omega, by split <;> omega⟩
        dsimp only
        rw [hm]
        refine ⟨_, rfl, _, _, rfl, rfl, _, rfl, ?_⟩
        by_cases m1 : m < 1
        · rw [decide_eq_true m1]
          exact iteT ⟨_, rfl, q _ _ _ (same_new L0) w5 ⟨L, _, rfl, upd_same, ne, hf⟩⟩
        · rw [decide_eq_false m1]
          refine iteF ⟨_, rfl, L, _, rfl, .inl (SqL.mk hL5), rfl, _, rfl, ?_⟩
          by_cases l9 : (ys ++ [a]).length = 9
          · rw [decide_eq_true (show V.int (((ys ++ [a]).map V.int).length : Nat) = V.int 9 by rw [List.length_map, l9]; rfl)]
            exact iteT ⟨_, rfl, q _ _ _ (same_new L0) w5 ⟨L, _, rfl, upd_same, ne, hf⟩⟩
          · rw [decide_eq_false (show ¬ V.int (((ys ++ [a]).map V.int).length : Nat) = V.int 9 from fun z => l9 (by have := V.int.inj z; rw [List.length_map] at this; omega))]
            refine iteF ⟨_, rfl, .inl ⟨rfl, _, SqL.mk hL5⟩, _, rfl, _, rfl, p, m, _, rfl, w5, by omega, by omega, fun H6 d3 w6 f0 f1 => ⟨_, _, rfl, rfl, ?_⟩⟩
            have hL6 : H6 L = some (.lst ((ys ++ [a]).map V.int)) := w6.s _ _ upd_same
            refine ⟨L, _, _, rfl, rfl, hL6, Nat.lt_of_le_of_lt (show ((ys ++ [a]).map V.int).length ≤ 9 by rw [List.length_map]; exact r1) (by decide), ?_⟩
            refine ⟨(ys ++ [a]) ++ [1 + d3], _, _, rfl, ?_, by simp, ?_⟩
            · have e : ((ys ++ [a]).map V.int) ++ [V.int (1 + d3)] = (((ys ++ [a]) ++ [1 + d3]).map V.int) := by simp
              dsimp only
              rw [e]
              exact (w6.put L0 Lp).got L0 Lp upd_same
            · rw [ff_snoc, hf]
              show (if okStep _ _ _ _ then none else some _) = none
              rw [if_pos ⟨l9, by omega, .inr ⟨by omega, by rw [lastI_snoc]; omega⟩⟩]
      · rintro σ H5 ⟨ns, y3, y5, rfl, w5, ne, hf⟩
        exact ⟨_, rfl, q _ _ _ (same_new L0) w5 ⟨L, _, rfl, upd_same, ne, hf⟩⟩
end
end G0

namespace G0
open PySem PySem.Spec PyProof.Rows L2
theorem cut_lo (xs : List V) (i : Nat) : cutV xs none (some (i : Int)) = xs.take i := by
  unfold cutV
  rw [HT.sIx_none, HT.sIx_nat, List.drop_zero, Nat.sub_zero]
  by_cases h : i ≤ xs.length
  · rw [Nat.min_eq_left h]
  · rw [Nat.min_eq_right (by omega), List.take_length, List.take_of_length_le (by omega)]
theorem cut_hi (xs : List V) (i : Nat) : cutV xs (some (i : Int)) none = xs.drop i := by
  unfold cutV
  rw [HT.sIx_none, HT.sIx_nat]
  by_cases h : i ≤ xs.length
  · rw [Nat.min_eq_left h, List.take_of_length_le (by rw [List.length_drop]; omega)]
  · rw [Nat.min_eq_right (by omega), Nat.sub_self, List.take_zero, List.drop_of_length_le (by omega)]
theorem plcGo_take (j : Int) {ns : List Int} {i : Nat} {n : Int} (h : ns[i]? = some n) : plc j (ns.take (i + 1)) = plc j (ns.take i) ++ if j < n then [i] else [] := by
  have hi := (List.getElem?_eq_some_iff.mp h).1
  rw [List.take_add_one, h]
  show plc j (ns.take i ++ [n]) = _
  rw [plc_snoc, List.length_take, Nat.min_eq_left (by omega)]
theorem plc_len (j : Int) : ∀ ns : List Int, (plc j ns).length ≤ ns.length := by
  have gen : ∀ (ns : List Int) (k : Nat), (plcGo j k ns).length ≤ ns.length := by
    intro ns
    induction ns with
    | nil => intro k; exact Nat.le_refl _
    | cons n ns ih =>
      intro k
      rw [plcGo, List.length_append, List.length_cons]
      have := ih (k + 1)
      split <;> simp <;> omega
  exact fun ns => gen ns 0
theorem _root_.L2.Same.put {H H' : Hp} {L : Addr} {o : HO} (e : Same H H') (h : H L = none) : Same H (upd H' L o) := fun b u eb => by
  rw [upd_ne (ne_of_none eb h)]
  exact e _ _ eb
def natV (ks : List Nat) : List V := ks.map fun i => V.int (i : Nat)
theorem natV_dp {K : PySem.W.Frag} {H : Hp} (ks : List Nat) : DpAll K H (natV ks) ((ks.map fun i => ((i : Nat) : Int)).map PyData.int) := by
  have := dp_ints (K := K) (H := H) (ks.map fun i => ((i : Nat) : Int))
  rw [List.map_map] at this
  exact this
theorem shaped_lst (ns : List Int) : SeqAt.shaped (dLst ns) = true := by
  have lay : ∀ ns : List Int, PyData.canLayAll0 (ns.map PyData.int) = true := by
    intro ns
    induction ns with
    | nil => rfl
    | cons n ns ih => simp [PyData.canLayAll0, PyData.canLay0, ih]
  have dep : ∀ ns : List Int, PyData.depthAll (ns.map PyData.int) = 0 := by
    intro ns
    induction ns with
    | nil => rfl
    | cons n ns ih => simp [PyData.depthAll, PyData.depth, ih]
  show (PyData.canLay0 (dLst ns) && decide (PyData.depth (dLst ns) ≤ 64)) = true
  simp only [dLst, PyData.canLay0, lay, PyData.depth, dep]
  decide
theorem eqv_lst (ns ms : List Int) : PyData.eqv (dLst ns) (dLst ms) = decide (ns = ms) := by
  show PyData.eqvAll _ _ = _
  exact eqv_ints ns ms
theorem le_sum : ∀ {ns : List Int}, (∀ n ∈ ns, 0 < n) → ∀ n ∈ ns, 0 ≤ ns.sum - n
  | [], _, n, h => by cases h
  | x :: xs, p, n, h => by
    rw [List.sum_cons]
    have px : ∀ n ∈ xs, 0 < n := fun m hm => p m (by simp [hm])
    have s0 : 0 ≤ xs.sum := by
      cases xs with
      | nil => simp
      | cons y ys =>
        have := le_sum px y (by simp)
        have := px y (by simp)
        omega
    rcases List.mem_cons.mp h with rfl | h
    · omega
    · have := le_sum px n h
      have := p x (by simp)
      omega
theorem nat_inj {ks ms : List Nat} : (ks.map fun i => ((i : Nat) : Int)) = (ms.map fun i => ((i : Nat) : Int)) ↔ ks = ms := by
  constructor
  · intro h
    exact (List.map_inj_right (fun _ _ e => by omega)).mp h
  · rintro rfl
    rfl
end G0

namespace G0
/-! ### rows and their lengths -/
def cnt (j : Int) : List Int → Nat
  | [] => 0
  | n :: ns => (if j < n then 1 else 0) + cnt j ns
def atN (i : Int) : Nat → List Int → Nat
  | _, [] => 0
  | k, z :: zs => (if (k : Int) ≤ i ∧ i < (k : Int) + z then 1 else 0) + atN i (k + 1) zs
def sizesI (ns : List Int) (m : Nat) : List Int := (List.range' 0 m).map fun j => ((cnt ((j : Nat) : Int) ns : Nat) : Int)
def rowOf (zs : List Int) (n : Nat) : List Int := (List.range' 0 n).map fun i => ((atN ((i : Nat) : Int) 0 zs : Nat) : Int)
theorem cnt_plc (j : Int) : ∀ (ns : List Int) (k : Nat), (plcGo j k ns).length = cnt j ns
  | [], k => rfl
  | n :: ns, k => by
    unfold plcGo cnt
    rw [List.length_append, cnt_plc j ns]
    by_cases h : j < n
    · rw [if_pos h, if_pos h]
      rfl
    · rw [if_neg h, if_neg h]
      rfl
theorem plc_cnt (j : Int) (ns : List Int) : (plc j ns).length = cnt j ns := cnt_plc j ns 0
theorem plcGo_at (j : Int) : ∀ (ns : List Int) (k i : Nat), i ∈ plcGo j k ns ↔ k ≤ i ∧ ∃ n, ns[i - k]? = some n ∧ j < n
  | [], k, i => by simp [plcGo]
  | n :: ns, k, i => by
    unfold plcGo
    rw [List.mem_append, plcGo_at j ns (k + 1) i]
    by_cases e : i = k
    · subst e
      by_cases h : j < n
      · simp [h]
      · simp [h]
        omega
    · have s : ∀ h : k < i, (n :: ns)[i - k]? = ns[i - (k + 1)]? := fun h => by
        rw [show i - k = (i - (k + 1)) + 1 by omega, List.getElem?_cons_succ]
      by_cases h : j < n
      · rw [if_pos h, List.mem_singleton]
        constructor
        · rintro (h1 | ⟨h1, m, h2, h3⟩)
          · exact absurd h1 e
          · exact ⟨by omega, m, by rw [s (by omega)]; exact h2, h3⟩
        · rintro ⟨h1, m, h2, h3⟩
          exact .inr ⟨by omega, m, by rw [← s (by omega)]; exact h2, h3⟩
      · rw [if_neg h]
        constructor
        · rintro (h1 | ⟨h1, m, h2, h3⟩)
          · cases h1
          · exact ⟨by omega, m, by rw [s (by omega)]; exact h2, h3⟩
        · rintro ⟨h1, m, h2, h3⟩
          exact .inr ⟨by omega, m, by rw [← s (by omega)]; exact h2, h3⟩
theorem plc_at (j : Int) (ns : List Int) (i : Nat) : i ∈ plc j ns ↔ ∃ n, ns[i]? = some n ∧ j < n := by
  unfold plc
  rw [plcGo_at]
  simp
theorem plcGo_up (j : Int) : ∀ (ns : List Int) (k : Nat), (plcGo j k ns).Pairwise (· < ·)
  | [], k => .nil
  | n :: ns, k => by
    unfold plcGo
    rw [List.pairwise_append]
    refine ⟨?_, plcGo_up j ns (k + 1), fun a ha b hb => ?_⟩
    · split <;> simp
    · have := (plcGo_mem j ns (k + 1) b hb).1
      split at ha
      · have := List.mem_singleton.mp ha
        omega
      · cases ha
theorem range_up : ∀ (n k : Nat), (List.range' k n).Pairwise (· < ·)
  | 0, k => .nil
  | n + 1, k => by
    rw [List.range'_succ]
    refine .cons (fun a ha => ?_) (range_up n (k + 1))
    have := (List.mem_range'_1.mp ha).1
    omega
theorem up_ext : ∀ {xs ys : List Nat}, xs.Pairwise (· < ·) → ys.Pairwise (· < ·) → (∀ a, a ∈ xs ↔ a ∈ ys) → xs = ys
  | [], [], _, _, _ => rfl
  | [], y :: ys, _, _, h => absurd ((h y).mpr (by simp)) (by simp)
  | x :: xs, [], _, _, h => absurd ((h x).mp (by simp)) (by simp)
  | x :: xs, y :: ys, hx, hy, h => by
    have hx1 := List.pairwise_cons.mp hx
    have hy1 := List.pairwise_cons.mp hy
    have e : x = y := by
      rcases List.mem_cons.mp ((h x).mp (by simp)) with e | m
      · exact e
      · rcases List.mem_cons.mp ((h y).mpr (by simp)) with e | m2
        · exact e.symm
        · have := hy1.1 x m
          have := hx1.1 y m2
          omega
    subst e
    rw [up_ext hx1.2 hy1.2 fun a => ?_]
    constructor
    · intro m
      have := hx1.1 a m
      rcases List.mem_cons.mp ((h a).mp (by simp [m])) with e | m2
      · omega
      · exact m2
    · intro m
      have := hy1.1 a m
      rcases List.mem_cons.mp ((h a).mpr (by simp [m])) with e | m2
      · omega
      · exact m2
/-- lengths as they can be -/
structure Len (zs : List Int) : Prop where
  ne : zs ≠ []
  pos : ∀ z ∈ zs, 0 < z
  dec : zs.Pairwise (· > ·)
  hi : ∀ z ∈ zs, z ≤ 9
  sum : zs.sum ≤ 24
theorem dec_gap : ∀ {zs : List Int} {z : Int}, (z :: zs).Pairwise (· > ·) → ∀ (j : Nat) (y : Int), zs[j]? = some y → y + (j : Int) + 1 ≤ z
  | [], z, _, j, y, h => by simp at h
  | x :: xs, z, hp, 0, y, h => by
    have e : x = y := by simpa using h
    have := (List.pairwise_cons.mp hp).1 x (by simp)
    omega
  | x :: xs, z, hp, j + 1, y, h => by
    have h2 := List.pairwise_cons.mp hp
    have := dec_gap h2.2 j y (by simpa using h)
    have := h2.1 x (by simp)
    omega
theorem atN_lt (i : Int) : ∀ {zs : List Int}, zs.Pairwise (· > ·) → ∀ (k j : Nat), j < atN i k zs ↔ ∃ z, zs[j]? = some z ∧ (k : Int) + j ≤ i ∧ i < (k : Int) + j + z
  | [], _, k, j => by simp [atN]
  | z :: zs, hp, k, j => by
    have h2 := (List.pairwise_cons.mp hp).2
    have ih := atN_lt i h2 (k + 1)
    unfold atN
    by_cases c : (k : Int) ≤ i ∧ i < (k : Int) + z
    · rw [if_pos c]
      cases j with
      | zero =>
        simp
        omega
      | succ j =>
        have := ih j
        rw [List.getElem?_cons_succ, show (j + 1 < 1 + atN i (k + 1) zs) ↔ j < atN i (k + 1) zs by omega, this]
        constructor
        · rintro ⟨y, h1, h3, h4⟩
          exact ⟨y, h1, by omega, by omega⟩
        · rintro ⟨y, h1, h3, h4⟩
          exact ⟨y, h1, by omega, by omega⟩
    · rw [if_neg c]
      have z0 : atN i (k + 1) zs = 0 := by
        cases e : atN i (k + 1) zs with
        | zero => rfl
        | succ a =>
          obtain ⟨y, h1, h3, h4⟩ := (ih 0).mp (by omega)
          have := dec_gap hp 0 y h1
          omega
      rw [z0]
      constructor
      · intro h
        omega
      · rintro ⟨y, h1, h3, h4⟩
        cases j with
        | zero =>
          have e : z = y := by simpa using h1
          omega
        | succ j =>
          have := dec_gap hp j y (by simpa using h1)
          omega
theorem nat_ext {a b : Nat} (h : ∀ j, j < a ↔ j < b) : a = b := by
  have h1 := (h a)
  have h2 := (h b)
  omega
theorem sum_step (n : Int) : ∀ (m k : Nat), ((List.range' k m).map fun j => (if ((j : Nat) : Int) < n then (1 : Int) else 0)).sum = if n ≤ (k : Int) then 0 else if (k : Int) + m ≤ n then (m : Int) else n - k
  | 0, k => by
    simp
    omega
  | m + 1, k => by
    rw [List.range'_succ, List.map_cons, List.sum_cons, sum_step n m (k + 1)]
    split <;> split <;> split <;> (try split) <;> (try split) <;> omega
theorem sum_add {α : Type} (f g : α → Int) : ∀ xs : List α, (xs.map fun x => f x + g x).sum = (xs.map f).sum + (xs.map g).sum
  | [] => rfl
  | x :: xs => by
    rw [List.map_cons, List.sum_cons, sum_add f g xs, List.map_cons, List.map_cons, List.sum_cons, List.sum_cons]
    omega
theorem sum_cnt (m : Nat) : ∀ {ns : List Int}, (∀ n ∈ ns, 0 ≤ n ∧ n ≤ (m : Int)) → (sizesI ns m).sum = ns.sum
  | [], _ => by
    unfold sizesI cnt
    have : ∀ xs : List Nat, (xs.map fun _ => (((0 : Nat) : Int))).sum = 0 := fun xs => by
      induction xs with
      | nil => rfl
      | cons x xs ih => rw [List.map_cons, List.sum_cons, ih]; rfl
    exact this _
  | n :: ns, h => by
    have ih := sum_cnt m (ns := ns) fun x hx => h x (by simp [hx])
    have hn := h n (by simp)
    unfold sizesI at ih ⊢
    have e : (fun j : Nat => ((cnt ((j : Nat) : Int) (n :: ns) : Nat) : Int)) = fun j : Nat => (if ((j : Nat) : Int) < n then (1 : Int) else 0) + ((cnt ((j : Nat) : Int) ns : Nat) : Int) := by
      funext j
      have c : cnt ((j : Nat) : Int) (n :: ns) = (if ((j : Nat) : Int) < n then 1 else 0) + cnt ((j : Nat) : Int) ns := rfl
      rw [c]
      split <;> simp
    rw [e, sum_add, ih, sum_step, List.sum_cons]
    have : ((0 : Nat) : Int) = 0 := rfl
    split <;> (try split) <;> omega
theorem cnt_le (j : Int) : ∀ ns : List Int, cnt j ns ≤ ns.length
  | [] => Nat.le_refl _
  | n :: ns => by
    have := cnt_le j ns
    unfold cnt
    rw [List.length_cons]
    split <;> omega
theorem cnt_all (j : Int) : ∀ {ns : List Int}, (∀ n ∈ ns, j < n) → cnt j ns = ns.length
  | [], _ => rfl
  | n :: ns, h => by
    have := cnt_all j (ns := ns) fun x hx => h x (by simp [hx])
    unfold cnt
    rw [if_pos (h n (by simp)), this, List.length_cons]
    omega
theorem sizesI_at {ns : List Int} {m j : Nat} : (sizesI ns m)[j]? = if j < m then some ((cnt ((j : Nat) : Int) ns : Nat) : Int) else none := by
  unfold sizesI
  by_cases h : j < m
  · rw [if_pos h, List.getElem?_map, List.getElem?_range' h]
    simp
  · rw [if_neg h, List.getElem?_eq_none (by simp; omega)]
theorem rowOf_at {zs : List Int} {n i : Nat} : (rowOf zs n)[i]? = if i < n then some ((atN ((i : Nat) : Int) 0 zs : Nat) : Int) else none := by
  unfold rowOf
  by_cases h : i < n
  · rw [if_pos h, List.getElem?_map, List.getElem?_range' h]
    simp
  · rw [if_neg h, List.getElem?_eq_none (by simp; omega)]
/-- from a row to its lengths and back -/
theorem row_sizes {ns : List Int} (r : RowI ns) {m : Int} (hm : m ∈ ns) (mx : ∀ y ∈ ns, y ≤ m) : Len (sizesI ns m.toNat) ∧ rowOf (sizesI ns m.toNat) ns.length = ns ∧ (sizesI ns m.toNat).sum = ns.sum ∧ (sizesI ns m.toNat)[0]? = some (ns.length : Int) := by
  have m0 := r.pos m hm
  have pl : ∀ j : Nat, (j : Int) < m → plc (j : Int) ns = List.range' j (cnt (j : Int) ns) := fun j h => by
    rw [← plc_cnt]
    exact r.pl j ⟨m, hm, h⟩
  have sm : (sizesI ns m.toNat).sum = ns.sum := sum_cnt _ fun n hn => ⟨by have := r.pos n hn; omega, by have := mx n hn; omega⟩
  have c0 : ∀ j : Nat, (j : Int) < m → 0 < cnt (j : Int) ns := fun j h => by
    rw [← plc_cnt]
    exact List.length_pos_iff.mpr (plcGo_ne _ ns 0 ⟨m, hm, h⟩)
  have dec : (sizesI ns m.toNat).Pairwise (· > ·) := by
    unfold sizesI
    rw [List.pairwise_map]
    refine (range_up _ _).imp_of_mem ?_
    intro a b ha hb hab
    have b1 := (List.mem_range'_1.mp hb).2
    have pa := pl a (by omega)
    have pb := pl b (by omega)
    have cb := c0 b (by omega)
    have mem : b + cnt (b : Int) ns - 1 ∈ plc (b : Int) ns := by
      rw [pb, List.mem_range'_1]
      omega
    have mem2 : b + cnt (b : Int) ns - 1 ∈ plc (a : Int) ns := by
      obtain ⟨n, h1, h2⟩ := (plc_at _ _ _).mp mem
      exact (plc_at _ _ _).mpr ⟨n, h1, by omega⟩
    rw [pa, List.mem_range'_1] at mem2
    show ((cnt (a : Int) ns : Nat) : Int) > ((cnt (b : Int) ns : Nat) : Int)
    omega
  refine ⟨⟨?_, fun z hz => ?_, dec, fun z hz => ?_, by rw [sm]; exact r.sum⟩, ?_, sm, ?_⟩
  · intro z
    have := congrArg List.length z
    unfold sizesI at this
    simp at this
    omega
  · obtain ⟨j, hj, rfl⟩ := List.mem_map.mp hz
    have := (List.mem_range'_1.mp hj).2
    have := c0 j (by omega)
    omega
  · obtain ⟨j, hj, rfl⟩ := List.mem_map.mp hz
    have := cnt_le (j : Int) ns
    have := r.len
    omega
  · apply List.ext_getElem?
    intro i
    rw [rowOf_at]
    by_cases h : i < ns.length
    · rw [if_pos h, List.getElem?_eq_getElem h]
      have hp := r.pos _ (List.getElem_mem h)
      have hx := mx _ (List.getElem_mem h)
      have : atN (i : Int) 0 (sizesI ns m.toNat) = ns[i].toNat := nat_ext fun j => by
        rw [atN_lt _ dec]
        constructor
        · rintro ⟨z, h1, h2, h3⟩
          rw [sizesI_at] at h1
          split at h1
          · cases h1
            have hj : (j : Int) < m := by omega
            have mem : i ∈ plc (j : Int) ns := by
              rw [pl j hj, List.mem_range'_1]
              omega
            obtain ⟨n, g1, g2⟩ := (plc_at _ _ _).mp mem
            rw [List.getElem?_eq_getElem h] at g1
            cases g1
            omega
          · cases h1
        · intro hj
          have hj2 : (j : Int) < m := by omega
          have mem : i ∈ plc (j : Int) ns := (plc_at _ _ _).mpr ⟨ns[i], List.getElem?_eq_getElem h, by omega⟩
          rw [pl j hj2, List.mem_range'_1] at mem
          refine ⟨_, by rw [sizesI_at, if_pos (by omega)], by omega, by omega⟩
      rw [this]
      congr 1
      omega
    · rw [if_neg h, List.getElem?_eq_none (by omega)]
  · rw [sizesI_at, if_pos (by omega)]
    rw [show cnt ((0 : Nat) : Int) ns = ns.length from cnt_all 0 fun n hn => r.pos n hn]
/-- from lengths to the row and back -/
theorem sizes_row {zs : List Int} (l : Len zs) {n : Int} (hn : zs[0]? = some n) : RowI (rowOf zs n.toNat) ∧ rowOf zs n.toNat ≠ [] ∧ (∀ y ∈ rowOf zs n.toNat, y ≤ (zs.length : Int)) ∧ (zs.length : Int) ∈ rowOf zs n.toNat ∧ sizesI (rowOf zs n.toNat) zs.length = zs := by
  obtain ⟨z0, zs', rfl⟩ : ∃ z zs', zs = z :: zs' := by
    cases zs with
    | nil => exact absurd rfl l.ne
    | cons z zs' => exact ⟨z, zs', rfl⟩
  have e0 : z0 = n := by simpa using hn
  subst e0
  have p0 := l.pos z0 (by simp)
  have h9 := l.hi z0 (by simp)
  have gap : ∀ (j : Nat) (y : Int), (z0 :: zs')[j]? = some y → y + (j : Int) ≤ z0 := fun j y h => by
    cases j with
    | zero =>
      have e : z0 = y := by simpa using h
      omega
    | succ j =>
      have := dec_gap l.dec j y (by simpa using h)
      omega
  have at_ : ∀ (i j : Nat), j < atN (i : Int) 0 (z0 :: zs') ↔ ∃ z, (z0 :: zs')[j]? = some z ∧ (j : Int) ≤ i ∧ (i : Int) < (j : Int) + z := fun i j => by
    rw [atN_lt _ l.dec]
    simp
  have pl : ∀ (j : Nat) (z : Int), (z0 :: zs')[j]? = some z → plc (j : Int) (rowOf (z0 :: zs') z0.toNat) = List.range' j z.toNat := fun j z hz => by
    have zp := l.pos z (List.mem_of_getElem? hz)
    have zg := gap j z hz
    refine up_ext (plcGo_up _ _ _) (range_up _ _) fun i => ?_
    rw [plc_at, List.mem_range'_1]
    constructor
    · rintro ⟨y, h1, h2⟩
      rw [rowOf_at] at h1
      split at h1
      · cases h1
        obtain ⟨w, g1, g2, g3⟩ := (at_ i j).mp (by omega)
        rw [hz] at g1
        cases g1
        omega
      · cases h1
    · rintro ⟨h1, h2⟩
      refine ⟨_, by rw [rowOf_at, if_pos (by omega)], ?_⟩
      have := (at_ i j).mpr ⟨z, hz, by omega, by omega⟩
      omega
  have le : ∀ y ∈ rowOf (z0 :: zs') z0.toNat, 0 < y ∧ y ≤ ((z0 :: zs').length : Int) := fun y hy => by
    obtain ⟨i, hi, rfl⟩ := List.mem_map.mp hy
    have hi2 := (List.mem_range'_1.mp hi).2
    constructor
    · have := (at_ i 0).mpr ⟨z0, by simp, by omega, by omega⟩
      omega
    · have : atN (i : Int) 0 (z0 :: zs') ≤ (z0 :: zs').length := Nat.le_of_not_lt fun h => by
        obtain ⟨w, g1, _⟩ := (at_ i _).mp h
        simp at g1
      omega
  have sz : sizesI (rowOf (z0 :: zs') z0.toNat) (z0 :: zs').length = z0 :: zs' := by
    apply List.ext_getElem?
    intro j
    rw [sizesI_at]
    by_cases h : j < (z0 :: zs').length
    · rw [if_pos h, List.getElem?_eq_getElem h, ← plc_cnt, pl j _ (List.getElem?_eq_getElem h), List.length_range']
      have := l.pos _ (List.getElem_mem h)
      congr 1
      omega
    · rw [if_neg h, List.getElem?_eq_none (by omega)]
  have sm : (rowOf (z0 :: zs') z0.toNat).sum = (z0 :: zs').sum := by
    have := sum_cnt (z0 :: zs').length (ns := rowOf (z0 :: zs') z0.toNat) fun y hy => by
      have := le y hy
      omega
    rw [sz] at this
    exact this.symm
  have ln : (rowOf (z0 :: zs') z0.toNat).length = z0.toNat := by unfold rowOf; simp
  refine ⟨⟨by omega, fun y hy => (le y hy).1, by rw [sm]; exact l.sum, fun j hj => ?_⟩, fun e => ?_, fun y hy => (le y hy).2, ?_, sz⟩
  · obtain ⟨y, hy, hj⟩ := hj
    obtain ⟨i, hi, rfl⟩ := List.mem_map.mp hy
    obtain ⟨w, g1, _⟩ := (at_ i j).mp (by omega)
    rw [pl j w g1, List.length_range']
  · have := congrArg List.length e
    rw [ln] at this
    simp at this
    omega
  · have hlast : (z0 :: zs')[zs'.length]? = some ((z0 :: zs')[zs'.length]'(by simp)) := List.getElem?_eq_getElem _
    have wp := l.pos _ (List.mem_of_getElem? hlast)
    have wg := gap _ _ hlast
    refine List.mem_map.mpr ⟨zs'.length, List.mem_range'_1.mpr ⟨by omega, by omega⟩, ?_⟩
    have h1 := (at_ zs'.length zs'.length).mpr ⟨_, hlast, by omega, by omega⟩
    have h2 := (le _ (List.mem_map.mpr ⟨zs'.length, List.mem_range'_1.mpr ⟨by omega, by omega⟩, rfl⟩)).2
    rw [List.length_cons] at h2 ⊢
    omega
end G0

namespace G0
open PySem PySem.Spec PyProof.Rows L2
/-! ### sum, max over a list or a tuple -/
section
variable {X : Cx}
theorem tup_iter {h : Heap} {a : Addr} {items : Array Value} (hT : h.IsTuple a items) : ∀ b ∈ [h.objs.size, a], b < (h.push (iterO false a)).objs.size := by
  obtain ⟨o1, ho1, _⟩ := hT
  have := Heap.lt_size ho1
  intro b hb
  rw [Heap.size_push]
  simp only [List.mem_cons, List.not_mem_nil, or_false] at hb
  rcases hb with rfl | rfl
  · exact Nat.lt_succ_self _
  · exact Nat.lt_succ_of_lt this
def rSumA (K : PySem.W.Frag) : List V → Hp → VK → Prop := fun vs H Q => ∃ (a : Addr) (ns : List Int), vs = [V.ref a] ∧ Sq K H a (ns.map V.int) ∧ Q (.int ns.sum) H
theorem cr_sumA (calm : X.calm = true) : CallR X (.builtin "sum") (rSumA X.K) := by
  intro pn s σ H vs us Q J r h
  obtain ⟨a, ns, rfl, hs | hs, q⟩ := h
  · exact cr_sum calm pn s σ H _ us Q J r ⟨a, ns, rfl, hs, q⟩
  · rw [Vals.ref1 r]
    obtain ⟨its, rv, hl, _⟩ := J.tuple hs
    obtain ⟨o1, ho1, hc1, n1, hd1⟩ := hl
    have hT : s.heap.IsTuple a its.toArray := ⟨o1, ho1, hc1, n1, hd1⟩
    have hlt : a < s.heap.objs.size := Heap.lt_size ho1
    obtain ⟨xs, e⟩ := rv.ints.allInts.items
    have hn : numsOf (intItems xs).toList = ns := by rw [← e]; exact rv.ints.numsOf
    rw [nums_intItems] at hn
    rw [e] at hT
    refine call_sum_walkG (wpAny_pyIter_tuple hT ?_)
    refine ⟨_, _, _, _, _, _, numAt xs, rfl, Walks.tuple (A := X.A.in1) (J.ok.hd calm) _ a (Nat.ne_of_lt hlt) (intItems xs), ⟨⟨_, Heap.get?_push_size _ rfl, rfl, rfl⟩, hT.push _⟩, ?_, (fun _ _ => intItems_at), fun h2 tk t' hk => ?_⟩
    · exact tup_iter hT
    · refine ⟨.int ns.sum, H, J.kept fun b o eo => hk b o (fun mem => ?_) (Heap.get?_push_of_some _ eo), ⟨t', ?_⟩, q⟩
      · rcases List.mem_cons.mp mem with e1 | mem
        · exact absurd (e1 ▸ Heap.lt_size eo) (Nat.lt_irrefl _)
        · cases mem
      · rw [preSum_eq, List.take_of_length_le (by simp [intItems]), hn]
def rMaxA (K : PySem.W.Frag) : List V → Hp → VK → Prop := fun vs H Q => ∃ (a : Addr) (ns : List Int), vs = [V.ref a] ∧ Sq K H a (ns.map V.int) ∧ 0 < ns.length ∧ ∀ m, m ∈ ns → (∀ y, y ∈ ns → y ≤ m) → Q (.int m) H
theorem cr_maxA (calm : X.calm = true) : CallR X (.builtin "max") (rMaxA X.K) := by
  intro pn s σ H vs us Q J r h
  obtain ⟨a, ns, rfl, hs | hs, hne, q⟩ := h
  · exact cr_max calm pn s σ H _ us Q J r ⟨a, ns, rfl, hs, hne, q⟩
  · rw [Vals.ref1 r]
    obtain ⟨its, rv, hl, _⟩ := J.tuple hs
    obtain ⟨o1, ho1, hc1, n1, hd1⟩ := hl
    have hT : s.heap.IsTuple a its.toArray := ⟨o1, ho1, hc1, n1, hd1⟩
    have hlt : a < s.heap.objs.size := Heap.lt_size ho1
    obtain ⟨xs, e⟩ := rv.ints.allInts.items
    have hn : numsOf (intItems xs).toList = ns := by rw [← e]; exact rv.ints.numsOf
    rw [nums_intItems] at hn
    subst hn
    rw [e] at hT
    have hsz : 0 < xs.size := by simpa using hne
    refine call_max_walk (wpAny_pyIter_tuple hT ?_)
    refine ⟨_, _, _, _, _, _, _, rfl, Walks.tuple (A := X.A.in1) (J.ok.hd calm) _ a (Nat.ne_of_lt hlt) (intItems xs), ⟨⟨_, Heap.get?_push_size _ rfl, rfl, rfl⟩, hT.push _⟩, tup_iter hT, by simpa [intItems] using hsz, CmpOf.ints_gt (numAt xs) (fun _ _ => intItems_at), fun v h2 tk hP hk => ?_⟩
    obtain ⟨t, rfl⟩ := intItems_at hP
    obtain ⟨h1, h2'⟩ := argBest_gt (numAt xs) (xs.size - 1)
    have esz : (intItems xs).size = xs.size := by simp [intItems]
    rw [esz]
    refine ⟨.int _, H, J.kept fun b o eo => hk b o (fun mem => ?_) (Heap.get?_push_of_some _ eo), ⟨t, rfl⟩, q _ ?_ fun y hy => ?_⟩
    · rcases List.mem_cons.mp mem with e1 | mem
      · exact absurd (e1 ▸ Heap.lt_size eo) (Nat.lt_irrefl _)
      · cases mem
    · rw [numAt_eq]
      exact PySem.getD_mem (by rw [List.length_map, Array.length_toList]; omega)
    · obtain ⟨j, hj, rfl⟩ := mem_getD hy
      rw [List.length_map, Array.length_toList] at hj
      rw [← numAt_eq]
      exact h2' j (by omega)
end
end G0

set_option pp.oneline true
namespace G0
open PySem PySem.Spec PyProof.Rows L2
abbrev s_number_at : Stmt := top 19
abbrev s_is_lengths : Stmt := top 18
theorem atN_snoc (i : Int) : ∀ (xs : List Int) (p : Nat) (z : Int), atN i p (xs ++ [z]) = atN i p xs + (if ((p + xs.length : Nat) : Int) ≤ i ∧ i < ((p + xs.length : Nat) : Int) + z then 1 else 0)
  | [], p, z => by simp [atN]
  | x :: xs, p, z => by
    rw [List.cons_append]
    show (if _ then 1 else 0) + atN i (p + 1) (xs ++ [z]) = (if _ then 1 else 0) + atN i (p + 1) xs + _
    rw [atN_snoc i xs (p + 1) z, List.length_cons, show p + 1 + xs.length = p + (xs.length + 1) by omega]
    omega
theorem atN_take (i : Int) {zs : List Int} {k : Nat} {z : Int} (h : zs[k]? = some z) : atN i 0 (zs.take (k + 1)) = atN i 0 (zs.take k) + (if (k : Int) ≤ i ∧ i < (k : Int) + z then 1 else 0) := by
  have hk := (List.getElem?_eq_some_iff.mp h).1
  rw [List.take_add_one, h]
  show atN i 0 (zs.take k ++ [z]) = _
  rw [atN_snoc, List.length_take, Nat.min_eq_left (by omega), Nat.zero_add]
theorem atN_le (i : Int) : ∀ (zs : List Int) (k : Nat), atN i k zs ≤ zs.length
  | [], k => Nat.le_refl _
  | z :: zs, k => by
    have := atN_le i zs (k + 1)
    unfold atN
    rw [List.length_cons]
    split <;> omega
section
variable {P : Program} {w : World} {K : PySem.W.Frag} {mg : Str → Option Value} {base : Heap}
def sp_numat (K : PySem.W.Frag) : Sp := fun vs H Q _ => ∃ (i : Int) (a : Addr) (zs : List Int), vs = [.int i, .ref a] ∧ Sq K H a (zs.map V.int) ∧ zs.length < 1000 ∧ ∀ H', Same H H' → Q (.int ((atN i 0 zs : Nat) : Int)) H'
theorem sc_numat : FnScope ["place", "steps", "least", "length"] ["place", "steps"] (defScope s_number_at) := ⟨rfl, rfl, rfl, by decide +kernel, rfl, by decide +kernel, by decide +kernel⟩
theorem ok_numat {f : Addr} {fd : FuncData} (F : Fun K "number_at" "number_at" s_number_at f fd) (B : Blt mg) : FnOk P w K mg base CX0 1 f fd ["place", "steps"] (sp_numat K) := by
  refine F.ok sc_numat (fun vs H Q E h => ?_) (fun cdv A outer s H vs Q E hr h => ?_)
  · obtain ⟨i, a, zs, rfl, _⟩ := h
    rfl
  · obtain ⟨i, a, zs, rfl, hs, hl, q⟩ := h
    obtain ⟨kind, hk⟩ := hs.kind
    have len : (zs.map V.int).length = zs.length := List.length_map ..
    refine ⟨_, pss_one (ps_ret (pe_callB call_len_seq (by rfl) B.len PySem.boot_len (pa_cons (pe_lc (own := [("least", 2), ("length", 3)]) (g := (gTup K 2 (gCons (gName 2) (gCons (gName 3) gNil)))) rfl sc_numat.nd (pi_E kind (by rfl) B.enumerate (pa_cons (pv 1) pa_nil)) (blkOk_by (N := ["place", "steps", "least", "length"]) (sc := defScope s_number_at) (by decide +kernel)) (fun _ _ _ _ _ => pg_tup rfl (pgs_cons (pg_name (i := 2) sc_numat.nd rfl (Or.inl rfl)) (pgs_cons (pg_name (i := 3) sc_numat.nd rfl (Or.inl rfl)) pgs_nil))) (fun _ _ _ _ _ => pts_one (pt_chain op_le op_lt (pv 2) (pv 0) (pe_op op_add (pv 2) (pv 3)))) (fun _ _ _ _ _ => (pv 2))) pa_nil))), ?_⟩
    refine ⟨_, rfl, a, _, rfl, hk, fun D hD => lc_it (walk_E (b := kind) (xs := zs.map V.int)) (fun k H5 => Same H H5 ∧ ∃ acc, H5 D = some (.lst acc) ∧ acc.length = atN i 0 (zs.take k)) ⟨same_new hD, [], upd_same, rfl⟩ (fun k H5 _ h => hk.same h.1) ?_ ?_⟩
    · rintro k y H5 H6 hk2 ⟨s5, acc, h5, el⟩ ⟨Tp, z1, z2, rfl, nT, rfl, ez1, ez2⟩
      cases ez1
      have hl2 : k < zs.length := by rw [len] at hk2; exact hk2
      have en : zs[k]? = some zs[k] := List.getElem?_eq_getElem hl2
      have ez3 : (zs.map V.int)[k]? = some z2 := ez2
      rw [List.getElem?_map, en] at ez3
      cases ez3
      clear ez2
      revert en
      generalize zs[k] = z
      intro en
      have at1 := atN_take i en
      have al := atN_le i (zs.take k) 0
      rw [List.length_take] at al
      have sT : Same H5 (upd H5 Tp (.tup [.int (k : Nat), .int z])) := same_new nT
      refine ⟨Tp, _, rfl, SqT.mk upd_same, rfl, _, _, rfl, _, _, rfl, rfl, rfl, ?_⟩
      refine ⟨_, rfl, _, rfl, _, _, rfl, rfl, _, rfl, ?_⟩
      by_cases c1 : (k : Int) ≤ i
      · rw [decide_eq_true c1]
        refine iteT ⟨_, rfl, _, rfl, _, _, rfl, rfl, _, _, rfl, rfl, _, rfl, ?_⟩
        by_cases c2 : i < (k : Int) + z
        · rw [decide_eq_true c2]
          rw [if_pos ⟨c1, c2⟩] at at1
          exact iteT ⟨_, rfl, acc, sT _ _ h5, by rw [sizeLine_eq]; omega, (s5.trans sT).put hD, _, upd_same, by rw [List.length_append, el, at1]; rfl⟩
        · rw [decide_eq_false c2]
          rw [if_neg fun c => c2 c.2] at at1
          exact iteF ⟨s5.trans sT, acc, sT _ _ h5, by rw [el, at1]; rfl⟩
      · rw [decide_eq_false c1]
        rw [if_neg fun c => c1 c.1] at at1
        exact iteF ⟨_, rfl, iteF ⟨s5.trans sT, acc, sT _ _ h5, by rw [el, at1]; rfl⟩⟩
    · rintro H5 ⟨s5, acc, h5, el⟩
      rw [len, List.take_length] at el
      have := q _ s5
      rw [← el] at this
      exact ⟨D, acc, rfl, .inl (SqL.mk h5), this⟩
theorem ix_sq {K : PySem.W.Frag} {H : Hp} {Q : VK} {p : Addr} {xs : List V} {i : Int} {v : V} (h : Sq K H p xs) (a : atI xs i = some v) (q : Q v H) : rIxL K (.ref p) (.int i) H Q ∨ rIxT K (.ref p) (.int i) H Q :=
  h.imp (fun h => ⟨p, xs, i, v, rfl, rfl, h, a, q⟩) fun h => ⟨p, xs, i, v, rfl, rfl, h, a, q⟩
theorem walk_zipT' {K : PySem.W.Frag} {a b : Addr} {xs ys : List V} {n : Nat} (hn : n = min xs.length ys.length) : Walk (RZ.ItzT K a b) n (fun H => SqT K H a xs ∧ SqT K H b ys) (YPair (fun i => xs[i]?) (fun i => ys[i]?)) where
  goes i _ hi q := ⟨xs, ys, xs[i]'(by omega), ys[i]'(by omega), q.1, q.2, by simp, by simp⟩
  stops _ q := ⟨xs, ys, q.1, q.2, by omega⟩
  yields _ _ _ _ _ q y := by
    obtain ⟨T, x, z, e1, e2, e3, e4, e5⟩ := y
    exact ⟨T, x, z, e1, e2, e3, e4 _ q.1, e5 _ q.2⟩
def LenB (ns : List Int) : Bool := decide (0 < ns.length) && ns.all (fun n => decide (0 < n)) && decide (ns.Pairwise (· > ·)) && decide (ns.headD 0 ≤ 9) && decide (ns.sum ≤ 24)
theorem len_iff (ns : List Int) : LenB ns = true ↔ Len ns := by
  unfold LenB
  simp only [Bool.and_eq_true, decide_eq_true_eq, List.all_eq_true]
  constructor
  · rintro ⟨⟨⟨⟨h1, h2⟩, h3⟩, h4⟩, h5⟩
    refine ⟨List.length_pos_iff.mp h1, h2, h3, fun z hz => ?_, h5⟩
    cases ns with
    | nil => cases hz
    | cons x xs =>
      have h4 : x ≤ 9 := h4
      rcases List.mem_cons.mp hz with rfl | hz
      · exact h4
      · have := (List.pairwise_cons.mp h3).1 z hz
        omega
  · rintro ⟨h1, h2, h3, h4, h5⟩
    refine ⟨⟨⟨⟨List.length_pos_iff.mpr h1, h2⟩, h3⟩, ?_⟩, h5⟩
    cases ns with
    | nil => exact absurd rfl h1
    | cons x xs => exact h4 x (by simp)
theorem pair_dec : ∀ ns : List Int, ns.Pairwise (· > ·) ↔ ∀ (i : Nat) (a b : Int), ns[i]? = some a → ns[i + 1]? = some b → a > b := by
  intro ns
  induction ns with
  | nil => simp
  | cons x xs ih =>
    constructor
    · intro h i a b ha hb
      have h2 := List.pairwise_cons.mp h
      cases i with
      | zero =>
        have e : x = a := by simpa using ha
        rw [← e]
        exact h2.1 b (List.mem_of_getElem? (by simpa using hb))
      | succ i => exact (ih.mp h2.2) i a b (by simpa using ha) (by simpa using hb)
    · intro h
      have h2 := ih.mpr fun i a b ha hb => h (i + 1) a b (by simpa using ha) (by simpa using hb)
      refine List.pairwise_cons.mpr ⟨fun b hb => ?_, h2⟩
      cases xs with
      | nil => cases hb
      | cons y ys =>
        have hxy := h 0 x y rfl rfl
        rcases List.mem_cons.mp hb with rfl | hb
        · exact hxy
        · have := (List.pairwise_cons.mp h2).1 b hb
          omega
def sp_isl (K : PySem.W.Frag) : Sp := fun vs H Q _ => ∃ (a : Addr) (ns : List Int), vs = [.ref a] ∧ Sq K H a (ns.map V.int) ∧ ns.length < 1000 ∧ ∀ H', Same H H' → Q (.bl (LenB ns)) H'
theorem sc_isl : FnScope ["value", "length", "ahead"] ["value"] (defScope s_is_lengths) := ⟨rfl, rfl, rfl, by decide +kernel, rfl, by decide +kernel, by decide +kernel⟩
theorem ok_isl {f f1 f2 : Addr} {fd fd1 fd2 : FuncData} (F : Fun K "is_lengths" "is_lengths" s_is_lengths f fd) (B : Blt mg) (nZ : mg "zip" = none) {t1 t2 : Tok} (m9 : mg "MOST_PLACES" = some (.int 9 t1)) (m24 : mg "MOST_SUM" = some (.int 24 t2))
    (Dlst : Df K mg "is_list" s_is_list ["value"] f1 fd1) (Glst : FnOk P w K mg base CX0 1 f1 fd1 ["value"] (sp_listA K)) (Dcnt : Df K mg "is_count" s_is_count ["value"] f2 fd2) (Gcnt : FnOk P w K mg base CX0 2 f2 fd2 ["value"] (sp_cntA K)) : FnOk P w K mg base CX0 3 f fd ["value"] (sp_isl K) := by
  refine F.ok sc_isl (fun vs H Q E h => ?_) (fun cdv A outer s H vs Q E hr h => ?_)
  · obtain ⟨a, ns, rfl, _⟩ := h
    rfl
  · obtain ⟨a, ns, rfl, hs, hl, q⟩ := h
    have r1 : Room 1 _ := hr.mono (by decide)
    have len : (ns.map V.int).length = ns.length := List.length_map ..
    refine ⟨_, pss_cons (ps_if (PW.pt (pw_or (pt_not (pt_val (pdf Dlst Glst r1 (pa_cons (pv 0) pa_nil)))) (pw_or (pt_cmpR op_eq (pe_callB call_len_seq (by rfl) B.len PySem.boot_len (pa_cons (pv 0) pa_nil)) pe_int (nomark _)) (pw_or1 (pt_not (pt_val (pe_callB (cr_all rfl) (by rfl) B.all boot_all (pa_cons (pe_lc (own := [("length", 1)]) (g := gName 1) (tt := tYes) rfl sc_isl.nd (pi_any (pv 0)) (blkOk_by (N := ["value", "length", "ahead"]) (sc := defScope s_is_lengths) (by decide +kernel)) (fun _ _ _ _ _ => pg_name (i := 1) sc_isl.nd rfl (Or.inl rfl)) (fun _ _ _ _ _ => pts_nil) (fun _ _ _ _ _ => (pe_and (pdf Dcnt Gcnt hr (pa_cons (pv 1) pa_nil)) (pe_one (pe_cmpR op_gt (pv 1) pe_int (nomark _)))))) pa_nil)))))))) (pss_one (ps_ret pe_bl)) pss_nil)
      (pss_cons (ps_if (pt_not (pt_val (pe_callB (cr_all rfl) (by rfl) B.all boot_all (pa_cons (pe_lc (own := [("ahead", 2), ("length", 1)]) (g := (gTup K 2 (gCons (gName 2) (gCons (gName 1) gNil)))) (tt := tYes) rfl sc_isl.nd (RZ.pi_zipA (by rfl) nZ (pa_cons (pv 0) (pa_cons (pe_slice (SlR.or sl_list sl_tup) (pv 0) (po_some pe_int) po_none) pa_nil))) (blkOk_by (N := ["value", "length", "ahead"]) (sc := defScope s_is_lengths) (by decide +kernel)) (fun _ _ _ _ _ => pg_tup rfl (pgs_cons (pg_name (i := 2) sc_isl.nd rfl (Or.inl rfl)) (pgs_cons (pg_name (i := 1) sc_isl.nd rfl (Or.inl rfl)) pgs_nil))) (fun _ _ _ _ _ => pts_nil) (fun _ _ _ _ _ => (pe_cmpR op_gt (pv 2) (pv 1) (nomark _)))) pa_nil)))) (pss_one (ps_ret pe_bl)) pss_nil)
      (pss_one (ps_ret (pe_and (pe_cmpR op_le (pe_ix (IxR.or ix_list ix_tup) (pv 0) pe_int (fun _ _ => rfl)) (pe_glob (v := V.int 9) rfl m9 ⟨_, rfl⟩) (nomark _)) (pe_one (pe_cmpR op_le (pe_callB (cr_sumA rfl) (by rfl) B.sum boot_sum (pa_cons (pv 0) pa_nil)) (pe_glob (v := V.int 24) rfl m24 ⟨_, rfl⟩) (nomark _))))))), ?_⟩
    have atns : ∀ (i : Nat) (u : V), (ns.map V.int)[i]? = some u → ∃ n, ns[i]? = some n ∧ u = V.int n := fun i u hi => by
      rw [List.getElem?_map] at hi
      cases e : ns[i]? with
      | none => rw [e] at hi; cases hi
      | some n => rw [e] at hi; cases hi; exact ⟨n, rfl, rfl⟩
    have atns1 : ∀ (i : Nat) (u : V), ((ns.drop 1).map V.int)[i]? = some u → ∃ n, ns[i + 1]? = some n ∧ u = V.int n := fun i u hi => by
      rw [List.getElem?_map, List.getElem?_drop, Nat.add_comm] at hi
      cases e : ns[i + 1]? with
      | none => rw [e] at hi; cases hi
      | some n => rw [e] at hi; cases hi; exact ⟨n, rfl, rfl⟩
    have no : ∀ H', Same H H' → ¬ Len ns → Q (.bl false) H' := fun H' s' n => by
      have := q H' s'
      rwa [show LenB ns = false by rw [Bool.eq_false_iff]; exact fun e => n ((len_iff ns).mp e)] at this
    have allpos : (∀ n ∈ ns, 0 < n) → ((ns.map fun n => decide (0 < n)).all id) = true := fun pos => by
      rw [List.all_eq_true]
      intro z hz
      obtain ⟨n, hn, rfl⟩ := List.mem_map.mp hz
      exact decide_eq_true (pos n hn)
    have allneg : ¬ (∀ n ∈ ns, 0 < n) → ((ns.map fun n => decide (0 < n)).all id) = false := fun pos => by
      rw [Bool.eq_false_iff]
      intro z
      rw [List.all_eq_true] at z
      exact pos fun n hn => of_decide_eq_true (z _ (List.mem_map.mpr ⟨n, hn, rfl⟩))
    have alldec : ns.Pairwise (· > ·) → (((List.range' 0 (ns.length - 1)).map fun i => decide (ns.getD (i + 1) 0 < ns.getD i 0)).all id) = true := fun dec => by
      rw [List.all_eq_true]
      intro z hz
      obtain ⟨i, hi, rfl⟩ := List.mem_map.mp hz
      have hi2 := (List.mem_range'_1.mp hi).2
      have hx : ns[i]? = some ns[i] := List.getElem?_eq_getElem (by omega)
      have hy : ns[i + 1]? = some ns[i + 1] := List.getElem?_eq_getElem (by omega)
      refine decide_eq_true ?_
      rw [List.getD_eq_getElem?_getD, List.getD_eq_getElem?_getD, hx, hy]
      exact (pair_dec ns).mp dec i _ _ hx hy
    have allnot : ¬ ns.Pairwise (· > ·) → (((List.range' 0 (ns.length - 1)).map fun i => decide (ns.getD (i + 1) 0 < ns.getD i 0)).all id) = false := fun dec => by
      rw [Bool.eq_false_iff]
      intro z
      rw [List.all_eq_true] at z
      refine dec ((pair_dec ns).mpr fun i x y hx hy => ?_)
      have hy1 := (List.getElem?_eq_some_iff.mp hy).1
      have := of_decide_eq_true (z _ (List.mem_map.mpr ⟨i, List.mem_range'_1.mpr ⟨by omega, by omega⟩, rfl⟩))
      rw [List.getD_eq_getElem?_getD, List.getD_eq_getElem?_getD, hx, hy] at this
      exact this
    have ec : cutV (ns.map V.int) (some (1 : Int)) none = (ns.drop 1).map V.int := by
      have := cut_hi (ns.map V.int) 1
      rw [← List.map_drop] at this
      exact this
    let FX : Nat → V := fun i => V.bl (decide (0 < ns.getD i 0))
    let FY : Nat → V := fun i => V.bl (decide (ns.getD (i + 1) 0 < ns.getD i 0))
    refine seq_join (fun σ H' => σ = [some (.ref a), none, none] ∧ Same H H' ∧ ns ≠ [] ∧ ∀ n ∈ ns, 0 < n) ?_ ?_
    · intro N hN0
      refine ⟨_, rfl, .ref a, _, rfl, av_ints hs, fun H1 s1 => ⟨true, rfl, iteF ⟨_, rfl, a, _, rfl, hs.same s1, rfl, _, rfl, ?_⟩⟩⟩
      rw [len]
      by_cases e0 : ns.length = 0
      · rw [decide_eq_true (show V.int ((ns.length : Nat) : Int) = V.int 0 by rw [e0]; rfl)]
        exact iteT (no _ s1 fun l => l.ne (List.length_eq_zero_iff.mp e0))
      rw [decide_eq_false (show ¬ V.int ((ns.length : Nat) : Int) = V.int 0 from fun z => e0 (by have := V.int.inj z; omega))]
      have hN : ∀ σ H', (σ = [some (V.ref a), none, none] ∧ Same H H' ∧ ∀ n ∈ ns, 0 < n) → N σ H' := fun σ H' h => hN0 σ H' ⟨h.1, h.2.1, fun e => e0 (by rw [e]; rfl), h.2.2⟩
      refine iteF ?_
      have hs1 := hs.same s1
      rcases hs1 with hs1 | hs1
      · refine .inl ⟨_, rfl, a, rfl, ⟨_, hs1⟩, fun D hD => lcI FX hs1 (by rw [len, sizeLine_eq]; omega) hD (fun i u hi H3 s3 G N gk => ⟨rfl, yes_ite ?_⟩) fun H3 s3 h3 => ?_⟩
        · obtain ⟨n, hn, rfl⟩ := atns i u hi
          have g2 := gk H3 (Same.refl _)
          have ef : FX i = V.bl (decide (0 ≤ n) && decide (0 < n)) := by
            show V.bl (decide (0 < ns.getD i 0)) = _
            rw [List.getD_eq_getElem?_getD, hn]
            show V.bl (decide (0 < n)) = _
            congr 1
            by_cases h : 0 < n
            · rw [decide_eq_true h, decide_eq_true (show 0 ≤ n by omega)]
              rfl
            · rw [decide_eq_false h, Bool.and_false]
          rw [ef] at g2
          show tAndV _ _ _ _ _
          exact and_v (decide (0 ≤ n)) (decide (0 < n)) (fun R r => ⟨_, rfl, .int n, .int n, rfl, .int n, r⟩) (fun _ R r => ⟨_, rfl, _, _, rfl, rfl, r⟩) g2
        · rw [len, range_getD ns 0 fun n => V.bl (decide (0 < n))] at h3
          have s13 := s1.trans s3
          refine ⟨D, ns.map fun n => decide (0 < n), rfl, SqL.mk (by rw [h3, List.map_map]; rfl), _, rfl, ?_⟩
          by_cases pos : ∀ n ∈ ns, 0 < n
          · rw [allpos pos]
            exact iteF (hN _ _ ⟨rfl, s13, pos⟩)
          · rw [allneg pos]
            exact iteT (no _ s13 fun l => pos l.pos)
      · refine .inr ⟨_, rfl, a, rfl, ⟨_, hs1⟩, fun D hD => lcIT FX hs1 (by rw [len, sizeLine_eq]; omega) hD (fun i u hi H3 s3 G N gk => ⟨rfl, yes_ite ?_⟩) fun H3 s3 h3 => ?_⟩
        · obtain ⟨n, hn, rfl⟩ := atns i u hi
          have g2 := gk H3 (Same.refl _)
          have ef : FX i = V.bl (decide (0 ≤ n) && decide (0 < n)) := by
            show V.bl (decide (0 < ns.getD i 0)) = _
            rw [List.getD_eq_getElem?_getD, hn]
            show V.bl (decide (0 < n)) = _
            congr 1
            by_cases h : 0 < n
            · rw [decide_eq_true h, decide_eq_true (show 0 ≤ n by omega)]
              rfl
            · rw [decide_eq_false h, Bool.and_false]
          rw [ef] at g2
          show tAndV _ _ _ _ _
          exact and_v (decide (0 ≤ n)) (decide (0 < n)) (fun R r => ⟨_, rfl, .int n, .int n, rfl, .int n, r⟩) (fun _ R r => ⟨_, rfl, _, _, rfl, rfl, r⟩) g2
        · rw [len, range_getD ns 0 fun n => V.bl (decide (0 < n))] at h3
          have s13 := s1.trans s3
          refine ⟨D, ns.map fun n => decide (0 < n), rfl, SqL.mk (by rw [h3, List.map_map]; rfl), _, rfl, ?_⟩
          by_cases pos : ∀ n ∈ ns, 0 < n
          · rw [allpos pos]
            exact iteF (hN _ _ ⟨rfl, s13, pos⟩)
          · rw [allneg pos]
            exact iteT (no _ s13 fun l => pos l.pos)
    rintro σ H3 ⟨rfl, s03, ne, pos⟩
    have hs3 := hs.same s03
    refine seq_join (fun σ H' => σ = [some (.ref a), none, none] ∧ Same H H' ∧ ns.Pairwise (· > ·)) ?_ ?_
    · intro N hN
      refine ⟨_, rfl, _, rfl, _, rfl, ?_⟩
      rcases hs3 with hs3 | hs3
      · refine .inl ⟨a, _, rfl, hs3, fun b hb => ?_⟩
        rw [ec]
        have s4 := same_new (o := .lst ((ns.drop 1).map V.int)) hb
        have z4 : SqL K (upd H3 b (.lst ((ns.drop 1).map V.int))) b ((ns.drop 1).map V.int) := SqL.mk upd_same
        have hs4 : SqL K (upd H3 b (.lst ((ns.drop 1).map V.int))) a (ns.map V.int) := s4.seq hs3
        revert s4 z4 hs4
        generalize upd H3 b (.lst ((ns.drop 1).map V.int)) = H4
        intro s4 z4 hs4
        refine ⟨a, b, _, _, rfl, .inl ⟨hs4, z4, fun D2 hD2 => lc_it (walk_zip (xs := ns.map V.int) (ys := (ns.drop 1).map V.int) (n := ns.length - 1) (by rw [len, List.length_map, List.length_drop]; omega)) (fun k H5 => Same H4 H5 ∧ H5 D2 = some (.lst ((List.range' 0 k).map FY))) ⟨same_new hD2, upd_same⟩ (fun k H5 _ h => ⟨h.1.seq hs4, h.1.seq z4⟩) ?_ ?_⟩⟩
        · rintro k y H5 H6 hk ⟨s5, h5⟩ ⟨Tp, z1, z2, rfl, nT, rfl, ez1, ez2⟩
          obtain ⟨x, hx, rfl⟩ := atns k z1 ez1
          obtain ⟨y, hy, rfl⟩ := atns1 k z2 ez2
          have sT : Same H5 (upd H5 Tp (.tup [.int x, .int y])) := same_new nT
          have ef : FY k = V.bl (decide (y < x)) := by
            show V.bl (decide (ns.getD (k + 1) 0 < ns.getD k 0)) = _
            rw [List.getD_eq_getElem?_getD, List.getD_eq_getElem?_getD, hx, hy]
            rfl
          refine ⟨Tp, _, rfl, SqT.mk upd_same, rfl, _, _, rfl, _, _, rfl, rfl, rfl, yes_ite ?_⟩
          refine ⟨_, rfl, _, rfl, _, _, rfl, rfl, _, sT _ _ h5, by rw [List.length_map, List.length_range', sizeLine_eq]; omega, (s5.trans sT).put hD2, ?_⟩
          rw [upd_same, List.range'_concat, List.map_append]
          show some (HO.lst (_ ++ [V.bl (decide (y < x))])) = some (HO.lst (_ ++ [FY (0 + 1 * k)]))
          rw [show 0 + 1 * k = k by omega, ef]
        · rintro H5 ⟨s5, h5⟩
          have s15 := s03.trans (s4.trans s5)
          refine ⟨D2, (List.range' 0 (ns.length - 1)).map fun i => decide (ns.getD (i + 1) 0 < ns.getD i 0), rfl, SqL.mk (by rw [h5, List.map_map]; rfl), _, rfl, ?_⟩
          by_cases dec : ns.Pairwise (· > ·)
          · rw [alldec dec]
            exact iteF (hN _ _ ⟨rfl, s15, dec⟩)
          · rw [allnot dec]
            exact iteT (no _ s15 fun l => dec l.dec)
      · refine .inr ⟨a, _, rfl, hs3, (by rw [len, show HT.sIx ns.length 0 (some (1 : Int)) = min 1 ns.length from HT.sIx_nat ns.length 0 1]; have := List.length_pos_iff.mpr ne; omega), fun b hb => ?_⟩
        rw [ec]
        have s4 := same_new (o := .tup ((ns.drop 1).map V.int)) hb
        have z4 : SqT K (upd H3 b (.tup ((ns.drop 1).map V.int))) b ((ns.drop 1).map V.int) := SqT.mk upd_same
        have hs4 : SqT K (upd H3 b (.tup ((ns.drop 1).map V.int))) a (ns.map V.int) := same_t s4 hs3
        revert s4 z4 hs4
        generalize upd H3 b (.tup ((ns.drop 1).map V.int)) = H4
        intro s4 z4 hs4
        refine ⟨a, b, _, _, rfl, .inr ⟨hs4, z4, fun D2 hD2 => lc_it (walk_zipT' (xs := ns.map V.int) (ys := (ns.drop 1).map V.int) (n := ns.length - 1) (by rw [len, List.length_map, List.length_drop]; omega)) (fun k H5 => Same H4 H5 ∧ H5 D2 = some (.lst ((List.range' 0 k).map FY))) ⟨same_new hD2, upd_same⟩ (fun k H5 _ h => ⟨same_t h.1 hs4, same_t h.1 z4⟩) ?_ ?_⟩⟩
        · rintro k y H5 H6 hk ⟨s5, h5⟩ ⟨Tp, z1, z2, rfl, nT, rfl, ez1, ez2⟩
          obtain ⟨x, hx, rfl⟩ := atns k z1 ez1
          obtain ⟨y, hy, rfl⟩ := atns1 k z2 ez2
          have sT : Same H5 (upd H5 Tp (.tup [.int x, .int y])) := same_new nT
          have ef : FY k = V.bl (decide (y < x)) := by
            show V.bl (decide (ns.getD (k + 1) 0 < ns.getD k 0)) = _
            rw [List.getD_eq_getElem?_getD, List.getD_eq_getElem?_getD, hx, hy]
            rfl
          refine ⟨Tp, _, rfl, SqT.mk upd_same, rfl, _, _, rfl, _, _, rfl, rfl, rfl, yes_ite ?_⟩
          refine ⟨_, rfl, _, rfl, _, _, rfl, rfl, _, sT _ _ h5, by rw [List.length_map, List.length_range', sizeLine_eq]; omega, (s5.trans sT).put hD2, ?_⟩
          rw [upd_same, List.range'_concat, List.map_append]
          show some (HO.lst (_ ++ [V.bl (decide (y < x))])) = some (HO.lst (_ ++ [FY (0 + 1 * k)]))
          rw [show 0 + 1 * k = k by omega, ef]
        · rintro H5 ⟨s5, h5⟩
          have s15 := s03.trans (s4.trans s5)
          refine ⟨D2, (List.range' 0 (ns.length - 1)).map fun i => decide (ns.getD (i + 1) 0 < ns.getD i 0), rfl, SqL.mk (by rw [h5, List.map_map]; rfl), _, rfl, ?_⟩
          by_cases dec : ns.Pairwise (· > ·)
          · rw [alldec dec]
            exact iteF (hN _ _ ⟨rfl, s15, dec⟩)
          · rw [allnot dec]
            exact iteT (no _ s15 fun l => dec l.dec)
    rintro σ H5 ⟨rfl, s05, dec⟩
    have hs5 := hs.same s05
    have at0 : atI (ns.map V.int) 0 = some (V.int (ns.headD 0)) := by
      cases ns with
      | nil => exact absurd rfl ne
      | cons x xs => exact atI_nat (xs := (x :: xs).map V.int) (j := 0) rfl
    have last := q H5 s05
    unfold LenB at last
    rw [decide_eq_true (List.length_pos_iff.mpr ne), decide_eq_true dec, show (ns.all fun n => decide (0 < n)) = true from List.all_eq_true.mpr fun n hn => decide_eq_true (pos n hn)] at last
    show tAndV _ _ _ _ _
    exact and_v (decide (ns.headD 0 ≤ 9)) (decide (ns.sum ≤ 24)) (fun R r => ⟨_, rfl, ix_sq hs5 at0 ⟨_, _, rfl, rfl, r⟩⟩) (fun _ R r => ⟨_, rfl, a, ns, rfl, hs5, _, _, rfl, rfl, r⟩) last
end
end G0

set_option pp.oneline true
namespace G0
open PySem PySem.Spec PyProof.Rows L2
abbrev s_check_row : Stmt := top 14
abbrev s_lengths : Stmt := top 16
theorem lenK {X : Cx} {K : PySem.W.Frag} (h : X.K = K) : CallR X (.builtin "len") (fun xs H Q => ∃ (p : Addr) (ys : List V), xs = [V.ref p] ∧ Sq K H p ys ∧ Q (V.int ((ys.length : Nat) : Int)) H) := by
  subst h
  exact call_len_seq
theorem pi_anyK {X : Cx} {K : PySem.W.Frag} (h : X.K = K) {tg l : Expr} {tl : TE} (hl : PE X l tl) : PI X tg l (iAny K tl) := by
  subst h
  exact pi_any hl
theorem pi_listK {X : Cx} {K : PySem.W.Frag} (h : X.K = K) {tg l : Expr} {tl : TE} (hl : PE X l tl) : PI X tg l (iList K tl) := by
  subst h
  exact pi_list hl
theorem ixK {X : Cx} {K : PySem.W.Frag} (h : X.K = K) : IxR X (rIxL K) := by
  subst h
  exact ix_list
theorem pi_EK {X : Cx} {K : PySem.W.Frag} (b : Bool) (h : X.K = K) {e : Expr} {ta : TA} {p pos tpos : Pos} {elts : List Expr} {kk : Nat} (gl : Gl X "enumerate") (no : X.mg "enumerate" = none) (pa : PA X [e] ta) (st : starEach [e] X.env = [(false, eval e X.env)] := by rfl) :
    PI X (.Tuple elts kk tpos) (.Call (.Name "enumerate" p) [e] [] pos) (iE b K ta) := by
  subst h
  exact pi_E b gl no pa st
/-- a comprehension over a list or a tuple -/
theorem lc_any {K : PySem.W.Frag} {tl : TE} {g : TG} {tt : TT} {te : TE} {vs : List Nat} {σ : L2.St} {H1 : Hp} {Q : VK} {a : Addr} {xs : List V} (hv : ∀ R : VK, R (.ref a) H1 → tl σ H1 R) (hs : Sq K H1 a xs) (Pv : Addr → Nat → Hp → Prop)
    (h0 : ∀ D, H1 D = none → Pv D 0 (upd H1 D (.lst []))) (st : ∀ D k H, Pv D k H → Same H1 H)
    (ht : ∀ D, H1 D = none → ∀ k x H, xs[k]? = some x → Pv D k H → g x (wipe σ vs) H fun σ2 H2 => wipe σ2 vs = wipe σ vs ∧ tt σ2 H2 fun b H3 => if b = true then te σ2 H3 fun y H4 => ∃ acc, H4 D = some (.lst acc) ∧ acc.length < sizeLine ∧ Pv D (k + 1) (upd H4 D (.lst (acc ++ [y]))) else Pv D (k + 1) H3)
    (hd : ∀ D H, H1 D = none → Pv D xs.length H → Q (.ref D) H) : tLc (iAny K tl) g tt te vs σ H1 Q := by
  rcases hs with hs | hs
  · exact .inl (hv _ ⟨a, rfl, ⟨_, hs⟩, fun D hD => lc_list (xs := xs) (Pv D) (h0 D hD) (fun k H _ h => (st D k H h).seq hs) (ht D hD) fun H h => hd D H hD h⟩)
  · exact .inr (hv _ ⟨a, rfl, ⟨_, hs⟩, fun D hD => lc_tup (xs := xs) (Pv D) (h0 D hD) (fun k H _ h => same_t (st D k H h) hs) (ht D hD) fun H h => hd D H hD h⟩)
theorem cnt_app (j : Int) : ∀ (xs ys : List Int), cnt j (xs ++ ys) = cnt j xs + cnt j ys
  | [], ys => by simp [cnt]
  | x :: xs, ys => by
    rw [List.cons_append]
    show (if _ then 1 else 0) + cnt j (xs ++ ys) = (if _ then 1 else 0) + cnt j xs + cnt j ys
    rw [cnt_app j xs ys]
    omega
theorem cnt_take (j : Int) {ns : List Int} {k : Nat} {n : Int} (h : ns[k]? = some n) : cnt j (ns.take (k + 1)) = cnt j (ns.take k) + (if j < n then 1 else 0) := by
  rw [List.take_add_one, h]
  show cnt j (ns.take k ++ [n]) = _
  rw [cnt_app]
  simp [cnt]
theorem rowB_true {ns : List Int} (ne : ns ≠ []) (lo : ∀ n ∈ ns, 0 ≤ n) (hf : ff ns = none) : AV.isRowB (.seq (ns.map AV.int)) = true := by
  show (decide (0 < (ns.map AV.int).length) && (ns.map AV.int).all AV.isCnt && (ff ((ns.map AV.int).map AV.num)).isNone) = true
  rw [cnt_ints lo, List.length_map, decide_eq_true (List.length_pos_iff.mpr ne), back_ints, hf]
  rfl
section
variable {P : Program} {w : World} {K : PySem.W.Frag} {mg : Str → Option Value} {base : Heap}
def sp_chk (K : PySem.W.Frag) : Sp := fun vs H Q _ => ∃ (a : Addr) (ns : List Int), vs = [.ref a] ∧ Sq K H a (ns.map V.int) ∧ ns ≠ [] ∧ RowI ns ∧ ∀ H', Same H H' → Q .non H'
theorem sc_chk : FnScope ["row"] ["row"] (defScope s_check_row) := ⟨rfl, rfl, rfl, by decide +kernel, rfl, by decide +kernel, by decide +kernel⟩
theorem ok_chk {f f1 : Addr} {fd fd1 : FuncData} (F : Fun K "check_row" "check_row" s_check_row f fd) (Drow : Df K mg "is_row" s_is_row ["value"] f1 fd1) (Grow : FnOk P w K mg base CX0 4 f1 fd1 ["value"] (sp_rowA K)) : FnOk P w K mg base CX0 5 f fd ["row"] (sp_chk K) := by
  refine F.ok sc_chk (fun vs H Q E h => ?_) (fun cdv A outer s H vs Q E hr h => ?_)
  · obtain ⟨a, ns, rfl, _⟩ := h
    rfl
  · obtain ⟨a, ns, rfl, hs, ne, r, q⟩ := h
    refine ⟨_, pss_one (ps_if (pt_not (pt_val (pdf Drow Grow hr (pa_cons (pv 0) pa_nil)))) (pss_one ps_never) pss_nil), ?_⟩
    have hl := r.len
    refine ⟨_, rfl, _, _, rfl, av_ints hs, fun xs e => ?_, fun H1 s1 => ?_⟩
    · cases e
      rw [List.length_map]
      omega
    · rw [rowB_true ne (fun n hn => by have := r.pos n hn; omega) ((row_iff ns).mp r)]
      exact ⟨true, rfl, iteF (q _ s1)⟩
def sp_lens (K : PySem.W.Frag) : Sp := fun vs H Q _ => ∃ (a : Addr) (ns : List Int), vs = [.ref a] ∧ Sq K H a (ns.map V.int) ∧ ns ≠ [] ∧ RowI ns ∧
  ∀ (m : Int), m ∈ ns → (∀ y ∈ ns, y ≤ m) → ∀ H' L, Same H H' → H L = none → H' L = some (.lst ((sizesI ns m.toNat).map V.int)) → Q (.ref L) H'
theorem sc_lens : FnScope ["row", "least", "number"] ["row"] (defScope s_lengths) := ⟨rfl, rfl, rfl, by decide +kernel, rfl, by decide +kernel, by decide +kernel⟩
theorem ok_lens {f f1 : Addr} {fd fd1 : FuncData} (F : Fun K "lengths" "lengths" s_lengths f fd) (B : Blt mg) (Dchk : Df K mg "check_row" s_check_row ["row"] f1 fd1) (Gchk : FnOk P w K mg base CX0 5 f1 fd1 ["row"] (sp_chk K)) : FnOk P w K mg base CX0 6 f fd ["row"] (sp_lens K) := by
  refine F.ok sc_lens (fun vs H Q E h => ?_) (fun cdv A outer s H vs Q E hr h => ?_)
  · obtain ⟨a, ns, rfl, _⟩ := h
    rfl
  · obtain ⟨a, ns, rfl, hs, ne, r, q⟩ := h
    refine ⟨_, pss_cons (ps_expr (pdf Dchk Gchk hr (pa_cons (pv 0) pa_nil)))
      (pss_one (ps_ret (pe_lc (own := [("least", 1)]) (g := gName 1) (tt := tYes) rfl sc_lens.nd (pi_range1 (by rfl) B.range (pa_cons (pe_callB (cr_maxA rfl) (by rfl) B.max boot_max (pa_cons (pv 0) pa_nil)) pa_nil)) (blkOk_by (N := ["row", "least", "number"]) (sc := defScope s_lengths) (by decide +kernel)) (fun _ _ _ _ _ => pg_name (i := 1) sc_lens.nd rfl (Or.inr rfl)) (fun _ _ _ _ _ => pts_nil) (fun _ _ _ _ _ => (pe_callB (lenK (K := K) rfl) (by rfl) B.len PySem.boot_len (pa_cons (pe_lc (own := [("number", 2)]) (g := gName 2) rfl sc_lens.nd (pi_anyK (K := K) rfl (pv 0)) (blkOk_by (by kernel_rfl)) (fun _ _ _ _ _ => pg_name (i := 2) sc_lens.nd rfl (Or.inl rfl)) (fun _ _ _ _ _ => pts_one (pt_cmpR op_gt (pv 2) (pv 1) (nomark _))) (fun _ _ _ _ _ => (pv 2))) pa_nil)))))), ?_⟩
    have len : (ns.map V.int).length = ns.length := List.length_map ..
    have l9 := r.len
    refine ⟨_, rfl, a, ns, rfl, hs, ne, r, fun H1 s1 => ?_⟩
    refine ⟨_, rfl, a, ns, rfl, hs.same s1, List.length_pos_iff.mpr ne, fun m mm mx => ?_⟩
    have m0 := r.pos m mm
    have m9 := row_le r m mm
    refine ⟨m, rfl, by omega, by omega, fun L hL => lc_range (n := m.toNat) (fun j H2 => Same H1 H2 ∧ H2 L = some (.lst (((List.range' 0 j).map fun j => ((cnt ((j : Nat) : Int) ns : Nat) : Int)).map V.int))) ⟨same_new hL, upd_same⟩ ?_ ?_⟩
    · rintro j H2 hj ⟨s2, h2⟩
      refine ⟨rfl, yes_ite ?_⟩
      have e0 : (0 : Int) + (j : Nat) = (j : Nat) := by omega
      rw [e0]
      unfold tCB tCons
      dsimp only
      refine lc_any (K := K) (a := a) (xs := ns.map V.int) (fun R r => ⟨_, rfl, r⟩) (hs.same (s1.trans s2)) (fun D k H3 => Same H2 H3 ∧ ∃ acc, H3 D = some (.lst acc) ∧ acc.length = cnt (j : Int) (ns.take k)) (fun D hD => ⟨same_new hD, [], upd_same, rfl⟩) (fun D k H3 h => h.1) (fun D hD k x H3 hx h => ?_) (fun D H3 hD h => ?_)
      · obtain ⟨s3, acc, h3, el⟩ := h
        obtain ⟨n, hn, rfl⟩ : ∃ n, ns[k]? = some n ∧ x = V.int n := by
          rw [List.getElem?_map] at hx
          cases e : ns[k]? with
          | none => rw [e] at hx; cases hx
          | some n => rw [e] at hx; cases hx; exact ⟨n, rfl, rfl⟩
        have ct := cnt_take (j : Int) hn
        have cl := cnt_le (j : Int) (ns.take k)
        rw [List.length_take] at cl
        refine ⟨rfl, _, rfl, _, rfl, _, _, rfl, rfl, _, rfl, ?_⟩
        by_cases c : (j : Int) < n
        · rw [decide_eq_true c]
          rw [if_pos c] at ct
          exact iteT ⟨_, rfl, acc, h3, by rw [sizeLine_eq]; omega, s3.put hD, _, upd_same, by rw [List.length_append, el, ct]; rfl⟩
        · rw [decide_eq_false c]
          rw [if_neg c] at ct
          exact iteF ⟨s3, acc, h3, by rw [el, ct]; rfl⟩
      · obtain ⟨s3, acc, h3, el⟩ := h
        rw [len, List.take_length] at el
        refine ⟨D, acc, rfl, .inl (SqL.mk h3), _, s3 _ _ h2, by rw [List.length_map, List.length_map, List.length_range', sizeLine_eq]; omega, (s2.trans s3).put hL, ?_⟩
        rw [upd_same, List.range'_concat, List.map_append, List.map_append, el]
        show some (HO.lst (_ ++ [V.int ((cnt (j : Int) ns : Nat) : Int)])) = some (HO.lst (_ ++ [V.int ((cnt (((0 + 1 * j : Nat) : Nat) : Int) ns : Nat) : Int)]))
        rw [show 0 + 1 * j = j by omega]
    · rintro H2 ⟨s2, h2⟩
      exact q m mm mx H2 L (s1.trans s2) (s1.free hL) h2
end
end G0

set_option pp.oneline true
namespace G0
open PySem PySem.Spec PyProof.Rows L2
abbrev s_IL : Stmt := top 7
abbrev s_IL_init : Stmt := inClass s_IL 0
abbrev s_row_by : Stmt := top 17
/-- an own error with one field -/
structure ErrTxt (K : PySem.W.Frag) (mg : Str → Option Value) (nm : Str) (C fI : Addr) : Prop where
  oex : OexC K C
  iC : PySem.W.findIn K (.ref C) "__init__" = some (some (.ref fI))
  tI : PySem.W.typeIn K (.ref fI) = some (.type "function")
  gC : mg nm = some (.ref C)
  xf : XfC K C
  noV : PySem.W.findIn K (.ref C) "value" = some none
  te : PySem.W.exmOne K (.ref C) (.ref C) = some true
def sp_err (K : PySem.W.Frag) (C : Addr) : Sp := fun vs H Q _ => ∃ (a : Addr) (v : V), vs = [.ref a, v] ∧ OexC K C ∧ PySem.W.findIn K (.ref C) "value" = some none ∧ H a = some (exo a C none) ∧ ∀ dx, H dx = none → dx ≠ a → Q .non (upd (upd H dx (exd dx [("value", v)])) a (exo a C (some dx)))
section
variable {P : Program} {w : World} {K : PySem.W.Frag} {mg : Str → Option Value} {base : Heap}
theorem sc_ILinit : FnScope ["self", "value"] ["self", "value"] (defScope s_IL_init) := ⟨rfl, rfl, rfl, by decide +kernel, rfl, by decide +kernel, by decide +kernel⟩
theorem ok_ILinit {f C : Addr} {fd : FuncData} (F : Fun K "__init__" "InvalidLengths.__init__" s_IL_init f fd) : FnOk P w K mg base CX0 1 f fd ["self", "value"] (sp_err K C) := by
  refine F.ok sc_ILinit (fun vs H Q E h => ?_) (fun cdv A outer s H vs Q E hr h => ?_)
  · obtain ⟨a, v, rfl, _⟩ := h
    rfl
  · obtain ⟨a, v, rfl, T, hno, ha, q⟩ := h
    refine ⟨_, pss_one (ps_ost (pv 0) (pv 1)), ?_⟩
    exact ⟨_, rfl, _, rfl, a, C, rfl, T, hno, .inl ⟨ha, fun dx h1 h2 => q dx h1 h2⟩⟩
/-- what is left of it when it is raised -/
theorem err_same {H : Hp} {a dx C : Addr} {v : V} (ha : H a = none) (hd : H dx = none) : Same H (upd (L2.del (upd (upd (upd H a (exo a C none)) dx (exd dx [("value", v)])) a (exo a C (some dx))) a) dx (.xd [("value", v)])) := fun b o e => by
  rw [upd_ne (ne_of_none e hd), L2.del_ne (ne_of_none e ha), upd_ne (ne_of_none e ha), upd_ne (ne_of_none e hd), upd_ne (ne_of_none e ha)]
  exact e
def sp_rowby (K : PySem.W.Frag) (C : Addr) : Sp := fun vs H Q E => ∃ (a : Addr) (zs : List Int), vs = [.ref a] ∧ Sq K H a (zs.map V.int) ∧ zs.length < 1000 ∧
  (∀ n, Len zs → zs[0]? = some n → ∀ H' L, Same H H' → H L = none → H' L = some (.lst ((rowOf zs n.toNat).map V.int)) → Q (.ref L) H') ∧
  (¬ Len zs → ∀ d H', Same H H' → H d = none → H' d = some (.xd [("value", .ref a)]) → E (.ref C) (some d) H')
theorem sc_rowby : FnScope ["lengths", "place"] ["lengths"] (defScope s_row_by) := ⟨rfl, rfl, rfl, by decide +kernel, rfl, by decide +kernel, by decide +kernel⟩
theorem ok_rowby {f f1 f2 C fI : Addr} {fd fd1 fd2 fdI : FuncData} (F : Fun K "row_by" "row_by" s_row_by f fd) (B : Blt mg) (T : ErrTxt K mg "InvalidLengths" C fI) (GI : FnOk P w K mg base CX0 1 fI fdI ["self", "value"] (sp_err K C)) (bI : Binds K fdI ["self", "value"] [])
    (Disl : Df K mg "is_lengths" s_is_lengths ["value"] f1 fd1) (Gisl : FnOk P w K mg base CX0 3 f1 fd1 ["value"] (sp_isl K)) (Dnat : Df K mg "number_at" s_number_at ["place", "steps"] f2 fd2) (Gnat : FnOk P w K mg base CX0 1 f2 fd2 ["place", "steps"] (sp_numat K)) :
    FnOk P w K mg base (L2.CX P w) 4 f fd ["lengths"] (sp_rowby K C) := by
  refine F.okX sc_rowby (fun vs H Q E h => ?_) (fun cdv A outer s H vs Q E hr h => ?_)
  · obtain ⟨a, zs, rfl, _⟩ := h
    rfl
  · obtain ⟨a, zs, rfl, hs, hl, q, e⟩ := h
    have r1 : Room 1 _ := hr.mono (by decide)
    have r2 : Room 2 _ := hr.mono (by decide)
    refine ⟨_, pss_cons (ps_if (pt_not (pt_val (pdf Disl Gisl hr (pa_cons (pv 0) pa_nil)))) (pss_one (ps_raise rfl (takes_of rfl rfl rfl rfl) (pmk_oex T.oex T.iC T.tI GI r2 bI .nil pass0 (by rfl) T.gC (pa_cons (pv 0) pa_nil)))) pss_nil)
      (pss_one (ps_ret (pe_lc (own := [("place", 1)]) (g := gName 1) (tt := tYes) rfl sc_rowby.nd (pi_range1 (by rfl) B.range (pa_cons (pe_ix (IxR.or ix_list ix_tup) (pv 0) pe_int (fun _ _ => rfl)) pa_nil)) (blkOk_by (N := ["lengths", "place"]) (sc := defScope s_row_by) (by decide +kernel)) (fun _ _ _ _ _ => pg_name (i := 1) sc_rowby.nd rfl (Or.inl rfl)) (fun _ _ _ _ _ => pts_nil) (fun _ _ _ _ _ => (pdf Dnat Gnat r1 (pa_cons (pv 1) (pa_cons (pv 0) pa_nil))))))), ?_⟩
    refine ⟨_, rfl, a, zs, rfl, hs, hl, fun H1 s1 => ⟨_, rfl, ?_⟩⟩
    by_cases ok : Len zs
    · rw [(len_iff zs).mpr ok]
      refine iteF ?_
      dsimp only [tNext]
      obtain ⟨n, z', rfl⟩ : ∃ n z', zs = n :: z' := by
        cases zs with
        | nil => exact absurd rfl ok.ne
        | cons n z' => exact ⟨n, z', rfl⟩
      have n0 := ok.pos n (by simp)
      have n9 := ok.hi n (by simp)
      have at0 : atI ((n :: z').map V.int) 0 = some (V.int n) := atI_nat (xs := (n :: z').map V.int) (j := 0) rfl
      have hs1 := hs.same s1
      refine ⟨_, rfl, ix_sq hs1 at0 ⟨n, rfl, by omega, by omega, fun L hL => lc_range (n := n.toNat) (fun i H2 => Same H1 H2 ∧ H2 L = some (.lst (((List.range' 0 i).map fun i => ((atN ((i : Nat) : Int) 0 (n :: z') : Nat) : Int)).map V.int))) ⟨same_new hL, upd_same⟩ ?_ ?_⟩⟩
      · rintro i H2 hi ⟨s2, h2⟩
        refine ⟨rfl, yes_ite ?_⟩
        have e0 : (0 : Int) + (i : Nat) = (i : Nat) := by omega
        rw [e0]
        refine ⟨_, rfl, _, rfl, _, a, _, rfl, hs.same (s1.trans s2), hl, fun H3 s3 => ?_⟩
        refine ⟨_, s3 _ _ h2, by rw [List.length_map, List.length_map, List.length_range', sizeLine_eq]; omega, (s2.trans s3).put hL, ?_⟩
        rw [upd_same, List.range'_concat, List.map_append, List.map_append]
        show some (HO.lst (_ ++ [V.int ((atN (i : Int) 0 (n :: z') : Nat) : Int)])) = some (HO.lst (_ ++ [V.int ((atN (((0 + 1 * i : Nat) : Nat) : Int) 0 (n :: z') : Nat) : Int)]))
        rw [show 0 + 1 * i = i by omega]
      · rintro H2 ⟨s2, h2⟩
        exact q n ok rfl H2 L (s1.trans s2) (s1.free hL) h2
    · rw [show LenB zs = false by rw [Bool.eq_false_iff]; exact fun e => ok ((len_iff zs).mp e)]
      refine iteT ⟨_, rfl, by show 1 ≤ 1000; decide, fun x hx => ⟨x, .ref a, rfl, T.oex, T.noV, upd_same, fun dx h1 h2 => ⟨rfl, dx, [("value", .ref a)], upd_same, ?_, ?_, ?_⟩⟩⟩
      · rw [upd_ne h2]
        exact upd_same
      · rw [upd_ne h2] at h1
        exact h1
      · rw [upd_ne h2] at h1
        exact e ok dx _ (s1.trans (err_same hx h1)) (s1.free h1) upd_same
end
end G0

set_option pp.oneline true
namespace G0
open PySem PySem.Spec PyProof.Rows L2
abbrev s_sizes : Stmt := top 26
abbrev s_back : Stmt := top 27
abbrev s_are : Stmt := top 28
theorem len_gap {zs : List Int} (l : Len zs) {n : Int} (h0 : zs[0]? = some n) : ∀ (j : Nat) (y : Int), zs[j]? = some y → y + (j : Int) ≤ n := fun j y h => by
  cases zs with
  | nil => cases h0
  | cons z zs =>
    have e0 : z = n := by simpa using h0
    cases j with
    | zero =>
      have e : z = y := by simpa using h
      omega
    | succ j =>
      have := dec_gap l.dec j y (by simpa using h)
      omega
theorem int_at {ns : List Int} {i : Nat} {x : V} (h : (ns.map V.int)[i]? = some x) : ∃ n, ns[i]? = some n ∧ x = .int n := by
  rw [List.getElem?_map] at h
  cases e : ns[i]? with
  | none => rw [e] at h; cases h
  | some n => rw [e] at h; cases h; exact ⟨n, rfl, rfl⟩
section
variable {P : Program} {w : World} {K : PySem.W.Frag} {mg : Str → Option Value} {base : Heap}
def sp_sizes (K : PySem.W.Frag) : Sp := fun vs H Q _ => ∃ (a : Addr) (ns : List Int), vs = [.ref a] ∧ SqL K H a (ns.map V.int) ∧ ns ≠ [] ∧ RowI ns ∧
  ∀ (m : Int), m ∈ ns → (∀ y ∈ ns, y ≤ m) → ∀ H' L, Same H H' → H L = none → H' L = some (.lst ((sizesI ns m.toNat).map V.int)) → Q (.ref L) H'
theorem sc_sizes : FnScope ["_law_numbers", "_law_found", "_law_j", "_law_number"] ["_law_numbers"] (defScope s_sizes) := ⟨rfl, rfl, rfl, by decide +kernel, rfl, by decide +kernel, by decide +kernel⟩
theorem ok_sizes {f : Addr} {fd : FuncData} (F : Fun K "_law_sizes" "_law_sizes" s_sizes f fd) (B : Blt mg) : FnOk P w K mg base CX0 1 f fd ["_law_numbers"] (sp_sizes K) := by
  refine F.ok sc_sizes (fun vs H Q E h => ?_) (fun cdv A outer s H vs Q E hr h => ?_)
  · obtain ⟨a, ns, rfl, _⟩ := h
    rfl
  · obtain ⟨a, ns, rfl, hs, ne, r, q⟩ := h
    have len : (ns.map V.int).length = ns.length := List.length_map ..
    have l9 := r.len
    refine ⟨_, pss_cons (ps_set (i := 1) sc_sizes.nd rfl (Or.inl rfl) (pe_lst pa_nil))
      (pss_cons (ps_for PassesOwn.never rfl (pi_range1 (by rfl) B.range (pa_cons (pe_callB (cr_maxA rfl) (by rfl) B.max boot_max (pa_cons (pv 0) pa_nil)) pa_nil)) (pg_name (i := 2) sc_sizes.nd rfl (Or.inr rfl)) (pss_one (ps_expr (pe_bm PySem.F.plainAttrs_list PySem.F.slot_list_append PySem.F.type_list_append mt_append (pv 1) (pa_cons (pe_callB call_len_seq (by rfl) B.len PySem.boot_len (pa_cons (pe_lc (own := [("_law_number", 3)]) (g := gName 3) rfl sc_sizes.nd (pi_any (pv 0)) (blkOk_by (N := ["_law_numbers", "_law_found", "_law_j", "_law_number"]) (sc := defScope s_sizes) (by decide +kernel)) (fun _ _ _ _ _ => pg_name (i := 3) sc_sizes.nd rfl (Or.inl rfl)) (fun _ _ _ _ _ => pts_one (pt_cmpR op_gt (pv 3) (pv 2) (nomark _))) (fun _ _ _ _ _ => (pv 3))) pa_nil)) pa_nil)))))
      (pss_one (ps_ret (pv 1)))), ?_⟩
    refine ⟨by show 0 ≤ sizeLine; decide, fun L hL => ?_⟩
    have s1 := same_new (o := .lst []) hL
    refine ⟨_, rfl, a, ns, rfl, .inl (s1.seq hs), List.length_pos_iff.mpr ne, fun m mm mx => ?_⟩
    have m0 := r.pos m mm
    have m9 := row_le r m mm
    refine ⟨m, rfl, by omega, by omega, for_range (n := m.toNat) (fun j σ H2 => ∃ y2 y3, σ = [some (.ref a), some (.ref L), y2, y3] ∧ Same H H2 ∧ H2 L = some (.lst (((List.range' 0 j).map fun j => ((cnt ((j : Nat) : Int) ns : Nat) : Int)).map V.int))) ⟨none, none, rfl, s1, upd_same⟩ ?_ ?_⟩
    · rintro j σ H2 hj ⟨y2, y3, rfl, s2, h2⟩
      have e0 : (0 : Int) + (j : Nat) = (j : Nat) := by omega
      rw [e0]
      refine ⟨_, rfl, .inl ⟨rfl, _, SqL.mk h2⟩, ?_⟩
      unfold tCons tCB
      dsimp only
      refine lc_any (K := K) (a := a) (xs := ns.map V.int) (fun R r => ⟨_, rfl, r⟩) (.inl (s2.seq hs)) (fun D k H3 => Same H2 H3 ∧ ∃ acc, H3 D = some (.lst acc) ∧ acc.length = cnt (j : Int) (ns.take k)) (fun D hD => ⟨same_new hD, [], upd_same, rfl⟩) (fun D k H3 h => h.1) (fun D hD k x H3 hx h => ?_) (fun D H3 hD h => ?_)
      · obtain ⟨s3, acc, h3, el⟩ := h
        obtain ⟨n, hn, rfl⟩ := int_at hx
        have ct := cnt_take (j : Int) hn
        have cl := cnt_le (j : Int) (ns.take k)
        rw [List.length_take] at cl
        refine ⟨rfl, _, rfl, _, rfl, _, _, rfl, rfl, _, rfl, ?_⟩
        by_cases c : (j : Int) < n
        · rw [decide_eq_true c]
          rw [if_pos c] at ct
          exact iteT ⟨_, rfl, acc, h3, by rw [sizeLine_eq]; omega, s3.put hD, _, upd_same, by rw [List.length_append, el, ct]; rfl⟩
        · rw [decide_eq_false c]
          rw [if_neg c] at ct
          exact iteF ⟨s3, acc, h3, by rw [el, ct]; rfl⟩
      · obtain ⟨s3, acc, h3, el⟩ := h
        rw [len, List.take_length] at el
        refine ⟨D, acc, rfl, .inl (SqL.mk h3), L, _, _, rfl, rfl, s3 _ _ h2, by rw [List.length_map, List.length_map, List.length_range', sizeLine_eq]; omega, ?_⟩
        refine ⟨_, _, rfl, (s2.trans s3).put hL, ?_⟩
        rw [upd_same, List.range'_concat, List.map_append, List.map_append, el]
        show some (HO.lst (_ ++ [V.int ((cnt (j : Int) ns : Nat) : Int)])) = some (HO.lst (_ ++ [V.int ((cnt (((0 + 1 * j : Nat) : Nat) : Int) ns : Nat) : Int)]))
        rw [show 0 + 1 * j = j by omega]
    · rintro σ H2 ⟨y2, y3, rfl, s2, h2⟩
      exact ⟨_, rfl, q m mm mx H2 L s2 hL h2⟩
def sp_back (K : PySem.W.Frag) : Sp := fun vs H Q _ => ∃ (a : Addr) (zs : List Int) (n : Int), vs = [.ref a] ∧ SqL K H a (zs.map V.int) ∧ Len zs ∧ zs[0]? = some n ∧
  ∀ H' L, Same H H' → H L = none → H' L = some (.lst ((rowOf zs n.toNat).map V.int)) → Q (.ref L) H'
theorem sc_back : FnScope ["_law_sizes_here", "_law_at", "_law_j", "_law_size"] ["_law_sizes_here"] (defScope s_back) := ⟨rfl, rfl, rfl, by decide +kernel, rfl, by decide +kernel, by decide +kernel⟩
theorem ok_back {f : Addr} {fd : FuncData} (F : Fun K "_law_back" "_law_back" s_back f fd) (B : Blt mg) : FnOk P w K mg base CX0 1 f fd ["_law_sizes_here"] (sp_back K) := by
  refine F.ok sc_back (fun vs H Q E h => ?_) (fun cdv A outer s H vs Q E hr h => ?_)
  · obtain ⟨a, zs, n, rfl, _⟩ := h
    rfl
  · obtain ⟨a, zs, n, rfl, hs, ok, h0, q⟩ := h
    have len : (zs.map V.int).length = zs.length := List.length_map ..
    refine ⟨_, pss_one (ps_ret (pe_lc (own := [("_law_at", 1)]) (g := gName 1) (tt := tYes) rfl sc_back.nd (pi_range1 (by rfl) B.range (pa_cons (pe_callB (cr_maxA rfl) (by rfl) B.max boot_max (pa_cons (pe_lc (own := [("_law_j", 2), ("_law_size", 3)]) (g := (gTup K 2 (gCons (gName 2) (gCons (gName 3) gNil)))) (tt := tYes) rfl sc_back.nd (pi_E true (by rfl) B.enumerate (pa_cons (pv 0) pa_nil)) (blkOk_by (N := ["_law_sizes_here", "_law_at", "_law_j", "_law_size"]) (sc := defScope s_back) (by decide +kernel)) (fun _ _ _ _ _ => pg_tup rfl (pgs_cons (pg_name (i := 2) sc_back.nd rfl (Or.inl rfl)) (pgs_cons (pg_name (i := 3) sc_back.nd rfl (Or.inl rfl)) pgs_nil))) (fun _ _ _ _ _ => pts_nil) (fun _ _ _ _ _ => (pe_op op_add (pv 2) (pv 3)))) pa_nil)) pa_nil)) (blkOk_by (N := ["_law_sizes_here", "_law_at", "_law_j", "_law_size"]) (sc := defScope s_back) (by decide +kernel)) (fun _ _ _ _ _ => pg_name (i := 1) sc_back.nd rfl (Or.inr rfl)) (fun _ _ _ _ _ => pts_nil) (fun _ _ _ _ _ => (pe_callB (lenK (K := K) rfl) (by rfl) B.len PySem.boot_len (pa_cons (pe_lc (own := [("_law_j", 2), ("_law_size", 3)]) (g := (gTup K 2 (gCons (gName 2) (gCons (gName 3) gNil)))) rfl sc_back.nd (pi_EK (K := K) true rfl (by rfl) B.enumerate (pa_cons (pv 0) pa_nil)) (blkOk_by (by kernel_rfl)) (fun _ _ _ _ _ => pg_tup rfl (pgs_cons (pg_name (i := 2) sc_back.nd rfl (Or.inl rfl)) (pgs_cons (pg_name (i := 3) sc_back.nd rfl (Or.inl rfl)) pgs_nil))) (fun _ _ _ _ _ => pts_one (pt_chain op_le op_lt (pv 2) (pv 1) (pe_op op_add (pv 2) (pv 3)))) (fun _ _ _ _ _ => (pv 2))) pa_nil))))), ?_⟩
    have z1 := ok.pos n (List.mem_of_getElem? h0)
    have z9 := ok.hi n (List.mem_of_getElem? h0)
    have zl : 0 < zs.length := (List.getElem?_eq_some_iff.mp h0).1
    have zl9 : zs.length ≤ 9 := by
      have hl : zs[zs.length - 1]? = some (zs[zs.length - 1]'(by omega)) := List.getElem?_eq_getElem _
      have := len_gap ok h0 _ _ hl
      have := ok.pos _ (List.mem_of_getElem? hl)
      omega
    let FJ : Nat → V := fun j => V.int ((j : Int) + zs.getD j 0)
    refine ⟨_, rfl, a, _, rfl, hs, fun D hD => lc_it (walk_E (b := true) (xs := zs.map V.int)) (fun k H5 => Same H H5 ∧ H5 D = some (.lst ((List.range' 0 k).map FJ))) ⟨same_new hD, upd_same⟩ (fun k H5 _ h => h.1.seq hs) ?_ ?_⟩
    · rintro k y H5 H6 hk ⟨s5, h5⟩ ⟨Tp, y1, y2, rfl, nT, rfl, ez1, ez2⟩
      cases ez1
      obtain ⟨z, hz, rfl⟩ := int_at ez2
      rw [len] at hk
      have sT : Same H5 (upd H5 Tp (.tup [.int (k : Nat), .int z])) := same_new nT
      refine ⟨Tp, _, rfl, SqT.mk upd_same, rfl, _, _, rfl, _, _, rfl, rfl, rfl, yes_ite ?_⟩
      refine ⟨_, rfl, _, rfl, _, _, rfl, rfl, _, sT _ _ h5, by rw [List.length_map, List.length_range', sizeLine_eq]; omega, (s5.trans sT).put hD, ?_⟩
      have ef : FJ k = V.int ((k : Int) + z) := by
        show V.int ((k : Int) + zs.getD k 0) = _
        rw [List.getD_eq_getElem?_getD, hz]
        rfl
      rw [upd_same, List.range'_concat, List.map_append]
      show some (HO.lst (_ ++ [V.int ((k : Int) + z)])) = some (HO.lst (_ ++ [FJ (0 + 1 * k)]))
      rw [show 0 + 1 * k = k by omega, ef]
    rintro H5 ⟨s5, h5⟩
    rw [len] at h5
    have e5 : (List.range' 0 zs.length).map FJ = ((List.range' 0 zs.length).map fun j => ((j : Nat) : Int) + zs.getD j 0).map V.int := by rw [List.map_map]; rfl
    rw [e5] at h5
    refine ⟨D, _, rfl, .inl (SqL.mk h5), by rw [List.length_map, List.length_range']; omega, fun m mm mx => ?_⟩
    obtain rfl : m = n := by
      obtain ⟨j, hj, rfl⟩ := List.mem_map.mp mm
      have hj2 := (List.mem_range'_1.mp hj).2
      have hz : zs[j]? = some (zs[j]'(by omega)) := List.getElem?_eq_getElem _
      have g := len_gap ok h0 _ _ hz
      have x := mx n (List.mem_map.mpr ⟨0, List.mem_range'_1.mpr ⟨by omega, by omega⟩, by rw [List.getD_eq_getElem?_getD, h0]; simp⟩)
      rw [List.getD_eq_getElem?_getD, hz] at x ⊢
      have x : n ≤ (j : Int) + zs[j]'(by omega) := x
      show (j : Int) + zs[j]'(by omega) = n
      omega
    refine ⟨m, rfl, by omega, by omega, fun L hL => lc_range (n := m.toNat) (fun i H2 => Same H5 H2 ∧ H2 L = some (.lst (((List.range' 0 i).map fun i => ((atN ((i : Nat) : Int) 0 zs : Nat) : Int)).map V.int))) ⟨same_new hL, upd_same⟩ ?_ ?_⟩
    · rintro i H2 hi ⟨s2, h2⟩
      refine ⟨rfl, yes_ite ?_⟩
      have e0 : (0 : Int) + (i : Nat) = (i : Nat) := by omega
      rw [e0]
      refine ⟨_, rfl, a, _, rfl, (s5.trans s2).seq hs, fun D hD => lc_it (walk_E (b := true) (xs := zs.map V.int)) (fun k H6 => Same H2 H6 ∧ ∃ acc, H6 D = some (.lst acc) ∧ acc.length = atN (i : Int) 0 (zs.take k)) ⟨same_new hD, [], upd_same, rfl⟩ (fun k H6 _ h => ((s5.trans s2).trans h.1).seq hs) ?_ ?_⟩
      · rintro k y H6 H7 hk2 ⟨s6, acc, h6, el⟩ ⟨Tp, y1, y2, rfl, nT, rfl, ez1, ez2⟩
        cases ez1
        obtain ⟨z, hz, rfl⟩ := int_at ez2
        rw [len] at hk2
        have at1 := atN_take (i : Int) hz
        have al := atN_le (i : Int) (zs.take k) 0
        rw [List.length_take] at al
        have sT : Same H6 (upd H6 Tp (.tup [.int (k : Nat), .int z])) := same_new nT
        refine ⟨Tp, _, rfl, SqT.mk upd_same, rfl, _, _, rfl, _, _, rfl, rfl, rfl, ?_⟩
        refine ⟨_, rfl, _, rfl, _, _, rfl, rfl, _, rfl, ?_⟩
        by_cases c1 : (k : Int) ≤ (i : Int)
        · rw [decide_eq_true c1]
          refine iteT ⟨_, rfl, _, rfl, _, _, rfl, rfl, _, _, rfl, rfl, _, rfl, ?_⟩
          by_cases c2 : (i : Int) < (k : Int) + z
          · rw [decide_eq_true c2]
            rw [if_pos ⟨c1, c2⟩] at at1
            exact iteT ⟨_, rfl, acc, sT _ _ h6, by rw [sizeLine_eq]; omega, (s6.trans sT).put hD, _, upd_same, by rw [List.length_append, el, at1]; rfl⟩
          · rw [decide_eq_false c2]
            rw [if_neg fun c => c2 c.2] at at1
            exact iteF ⟨s6.trans sT, acc, sT _ _ h6, by rw [el, at1]; rfl⟩
        · rw [decide_eq_false c1]
          rw [if_neg fun c => c1 c.1] at at1
          exact iteF ⟨_, rfl, iteF ⟨s6.trans sT, acc, sT _ _ h6, by rw [el, at1]; rfl⟩⟩
      · rintro H6 ⟨s6, acc, h6, el⟩
        rw [len, List.take_length] at el
        refine ⟨D, acc, rfl, .inl (SqL.mk h6), _, s6 _ _ h2, by rw [List.length_map, List.length_map, List.length_range', sizeLine_eq]; omega, (s2.trans s6).put hL, ?_⟩
        rw [upd_same, List.range'_concat, List.map_append, List.map_append, el]
        show some (HO.lst (_ ++ [V.int ((atN (i : Int) 0 zs : Nat) : Int)])) = some (HO.lst (_ ++ [V.int ((atN (((0 + 1 * i : Nat) : Nat) : Int) 0 zs : Nat) : Int)]))
        rw [show 0 + 1 * i = i by omega]
    · rintro H2 ⟨s2, h2⟩
      exact q H2 L (s5.trans s2) (s5.free hL) h2
def sp_are (K : PySem.W.Frag) : Sp := fun vs H Q _ => ∃ (a : Addr) (zs : List Int), vs = [.ref a] ∧ SqL K H a (zs.map V.int) ∧ zs.length < 1000 ∧ ∀ H', Same H H' → Q (.bl (LenB zs)) H'
theorem sc_are : FnScope ["_law_value", "_law_at"] ["_law_value"] (defScope s_are) := ⟨rfl, rfl, rfl, by decide +kernel, rfl, by decide +kernel, by decide +kernel⟩
theorem ok_are {f : Addr} {fd : FuncData} (F : Fun K "_law_are_sizes" "_law_are_sizes" s_are f fd) (B : Blt mg) : FnOk P w K mg base CX0 1 f fd ["_law_value"] (sp_are K) := by
  refine F.ok sc_are (fun vs H Q E h => ?_) (fun cdv A outer s H vs Q E hr h => ?_)
  · obtain ⟨a, zs, rfl, _⟩ := h
    rfl
  · obtain ⟨a, zs, rfl, hs, hl, q⟩ := h
    have hu := hr.units
    have len : (zs.map V.int).length = zs.length := List.length_map ..
    refine ⟨_, pss_cons (ps_if (PW.pt (pw_or (pt_not (pt_cmpR op_le pe_int (pe_callB call_len_seq (by rfl) B.len PySem.boot_len (pa_cons (pv 0) pa_nil)) (nomark _))) (pw_or (pt_cmpR op_gt (pe_callB (cr_sumA rfl) (by rfl) B.sum boot_sum (pa_cons (pv 0) pa_nil)) pe_int (nomark _)) (pw_or (pt_cmpR op_gt (pe_ix ix_list (pv 0) pe_int (fun _ _ => rfl)) pe_int (nomark _)) (pw_or1 (pt_cmpR op_lt (pe_ix ix_list (pv 0) (pe_un un_neg pe_int) (fun _ _ => rfl)) pe_int (nomark _))))))) (pss_one (ps_ret pe_bl)) pss_nil)
      (pss_one (ps_ret (pe_cmpR (op_eqD hu) (pe_lc (own := [("_law_at", 1)]) (g := gName 1) rfl sc_are.nd (pi_range2 (by rfl) B.range (pa_cons pe_int (pa_cons (pe_callB call_len_seq (by rfl) B.len PySem.boot_len (pa_cons (pv 0) pa_nil)) pa_nil))) (blkOk_by (N := ["_law_value", "_law_at"]) (sc := defScope s_are) (by decide +kernel)) (fun _ _ _ _ _ => pg_name (i := 1) sc_are.nd rfl (Or.inl rfl)) (fun _ _ _ _ _ => pts_one (pt_cmpR op_ge (pe_ix (ixK (K := K) rfl) (pv 0) (pv 1) (fun _ _ => rfl)) (pe_ix (ixK (K := K) rfl) (pv 0) (pe_op op_sub (pv 1) pe_int) (fun _ _ => rfl)) (nomark _))) (fun _ _ _ _ _ => (pv 1))) (pe_lst pa_nil) (nomark _)))), ?_⟩
    have no : ∀ H', Same H H' → ¬ Len zs → Q (.bl false) H' := fun H' s' n => by
      have := q H' s'
      rwa [show LenB zs = false by rw [Bool.eq_false_iff]; exact fun e => n ((len_iff zs).mp e)] at this
    refine ⟨_, rfl, a, _, rfl, .inl hs, _, _, rfl, rfl, _, rfl, ?_⟩
    rw [len]
    by_cases c1 : (1 : Int) ≤ ((zs.length : Nat) : Int)
    rotate_left
    · rw [decide_eq_false c1]
      exact iteT (no _ (Same.refl _) fun l => c1 (by have := List.length_pos_iff.mpr l.ne; omega))
    rw [decide_eq_true c1]
    refine iteF ⟨_, rfl, a, zs, rfl, .inl hs, _, _, rfl, rfl, _, rfl, ?_⟩
    by_cases c2 : (24 : Int) < zs.sum
    · rw [decide_eq_true c2]
      exact iteT (no _ (Same.refl _) fun l => by have := l.sum; omega)
    rw [decide_eq_false c2]
    obtain ⟨z0, z', rfl⟩ : ∃ z z', zs = z :: z' := by
      cases zs with
      | nil => exact absurd c1 (by decide)
      | cons z z' => exact ⟨z, z', rfl⟩
    obtain ⟨ys, y, ey⟩ := (snoc_cases (z0 :: z')).resolve_left (by simp)
    refine iteF ⟨_, rfl, a, _, _, _, rfl, rfl, hs, atI_nat (xs := (z0 :: z').map V.int) (j := 0) rfl, _, _, rfl, rfl, _, rfl, ?_⟩
    by_cases c3 : (9 : Int) < z0
    · rw [decide_eq_true c3]
      exact iteT (no _ (Same.refl _) fun l => by have := l.hi z0 (by simp); omega)
    rw [decide_eq_false c3]
    refine iteF ⟨_, rfl, _, rfl, a, _, _, _, rfl, rfl, hs, by rw [ey]; exact at_last, _, _, rfl, rfl, _, rfl, ?_⟩
    by_cases c4 : y < 1
    · rw [decide_eq_true c4]
      exact iteT (no _ (Same.refl _) fun l => by have := l.pos y (by rw [ey]; simp); omega)
    rw [decide_eq_false c4]
    refine iteF ?_
    dsimp only [tNext]
    have full : (z0 :: z').Pairwise (· > ·) → Len (z0 :: z') := fun dec => by
      refine ⟨by simp, fun z hz => ?_, dec, fun z hz => ?_, by omega⟩
      · rw [ey] at hz dec
        rcases List.mem_append.mp hz with hz | hz
        · have := (List.pairwise_append.mp dec).2.2 z hz y (by simp)
          omega
        · rw [List.mem_singleton.mp hz]
          omega
      · rcases List.mem_cons.mp hz with rfl | hz
        · omega
        · have := (List.pairwise_cons.mp dec).1 z hz
          omega
    revert full q hs len no hl c1 c2
    generalize z0 :: z' = zs
    intro hs hl q len no c1 c2 full
    refine ⟨_, rfl, a, _, rfl, .inl hs, 1, ((zs.map V.int).length : Nat), rfl, ⟨by decide, by decide, by omega, by rw [len]; omega⟩, fun D hD => lc_range (lo := 1) (n := ((((zs.map V.int).length : Nat) : Int) - 1).toNat) (fun k H5 => Same H H5 ∧ ∃ acc : List Int, H5 D = some (.lst (acc.map V.int)) ∧ acc.length ≤ k ∧ (acc = [] ↔ ∀ (i : Nat) (x y : Int), i < k → zs[i]? = some x → zs[i + 1]? = some y → x > y)) ⟨same_new hD, [], upd_same, Nat.le_refl _, ⟨fun _ i x y h => absurd h (Nat.not_lt_zero i), fun _ => rfl⟩⟩ ?_ ?_⟩
    · rintro k H5 hk ⟨s5, acc, h5, al, ai⟩
      rw [len] at hk
      have hs5 := s5.seq hs
      have hx : zs[k]? = some (zs[k]'(by omega)) := List.getElem?_eq_getElem _
      have hy : zs[k + 1]? = some (zs[k + 1]'(by omega)) := List.getElem?_eq_getElem _
      revert hx hy
      generalize zs[k]'(by omega) = x
      generalize zs[k + 1]'(by omega) = y2
      intro hx hy
      have a1 : atI (zs.map V.int) (1 + (k : Nat)) = some (V.int y2) := by
        have := atI_nat (xs := zs.map V.int) (j := k + 1) (v := V.int y2) (by rw [List.getElem?_map, hy]; rfl)
        rwa [show ((k + 1 : Nat) : Int) = 1 + (k : Nat) by omega] at this
      have a2 : atI (zs.map V.int) (1 + (k : Nat) - 1) = some (V.int x) := by
        have := atI_nat (xs := zs.map V.int) (j := k) (v := V.int x) (by rw [List.getElem?_map, hx]; rfl)
        rwa [show ((k : Nat) : Int) = 1 + (k : Nat) - 1 by omega] at this
      refine ⟨rfl, _, rfl, _, rfl, a, _, _, _, rfl, rfl, hs5, a1, _, rfl, _, rfl, _, _, rfl, rfl, a, _, _, _, rfl, rfl, hs5, a2, _, _, rfl, rfl, _, rfl, ?_⟩
      by_cases c : x ≤ y2
      · rw [decide_eq_true c]
        refine iteT ⟨_, rfl, _, h5, by rw [List.length_map, sizeLine_eq]; omega, s5.put hD, acc ++ [1 + (k : Int)], by rw [upd_same, List.map_append]; rfl, by rw [List.length_append]; show _ + 1 ≤ _; omega, ?_⟩
        refine ⟨fun e => absurd e (by simp), fun h => ?_⟩
        have := h k x y2 (by omega) hx hy
        omega
      · rw [decide_eq_false c]
        refine iteF ⟨s5, acc, h5, by omega, ?_⟩
        rw [ai]
        constructor
        · intro h i x' y' hi hx' hy'
          by_cases e : i = k
          · subst e
            rw [hx] at hx'
            rw [hy] at hy'
            cases hx'
            cases hy'
            omega
          · exact h i x' y' (by omega) hx' hy'
        · exact fun h i x' y' hi => h i x' y' (by omega)
    · rintro H5 ⟨s5, acc, h5, al, ai⟩
      refine ⟨by show 0 ≤ sizeLine; decide, fun p hp => ?_⟩
      have s6 := same_new (o := .lst []) hp
      refine ⟨_, _, .lst (SqL.mk (s6 _ _ h5)) (dp_ints _), .lst (SqL.mk upd_same) .nil, shaped_lst _, shaped_lst [], ?_⟩
      have ee : PyData.eqv (.list (acc.map PyData.int)) (.list []) = LenB zs := by
        refine (eqv_lst acc []).trans ?_
        rw [Bool.eq_iff_iff, decide_eq_true_iff, ai, len_iff]
        constructor
        · intro h
          refine full ((pair_dec zs).mpr fun i x y hx hy => h i x y ?_ hx hy)
          have := (List.getElem?_eq_some_iff.mp hy).1
          rw [len]
          omega
        · intro l i x y _ hx hy
          exact (pair_dec zs).mp l.dec i x y hx hy
      rw [ee]
      exact q _ (s5.trans s6)
end
end G0

set_option pp.oneline true
namespace G0
open PySem PySem.Spec PyProof.Rows L2
abbrev s_heard : Stmt := top 29
theorem reprK {X : Cx} {K : PySem.W.Frag} (h : X.K = K) (gd : X.A.guards = some []) (hu : X.A.units + 64 < cLine) : CallR X (.builtin "repr") (rReprF K) := by
  subst h
  exact call_repr gd hu
/-- lists of small ints -/
structure Few (ns : List Int) : Prop where
  len : ns.length ≤ 100
  sm : ∀ n ∈ ns, n.natAbs < 1000
theorem Few.dp {K : PySem.W.Frag} {D : Hp} {a : Addr} {ns : List Int} (c : Few ns) (h : Sq K D a (ns.map V.int)) : ∃ d, Fine d ∧ ∀ H, Same D H → Dp K H (.ref a) d := by
  have l := c.len
  have sm : Sm ns := fun n hn => Nat.lt_trans (c.sm n hn) (by decide +kernel)
  rcases h with h | h
  · exact ⟨dLst ns, fine_lst sm (by omega), fun H e => dp_lst (e.seq h)⟩
  · exact ⟨dTup ns, fine_tup sm (by omega), fun H e => dp_tup (same_t e h)⟩
section
variable {P : Program} {w : World} {K : PySem.W.Frag} {mg : Str → Option Value} {base : Heap}
def sp_heard (K : PySem.W.Frag) : Sp := fun vs H Q _ => ∃ (a : Addr) (zs : List Int), vs = [.ref a] ∧ Sq K H a (zs.map V.int) ∧ Few zs ∧
  (∀ n, Len zs → zs[0]? = some n → ∀ H' L, Same H H' → H L = none → H' L = some (.lst ((rowOf zs n.toNat).map V.int)) → Q (.ref L) H') ∧ (¬ Len zs → ∀ H', Same H H' → Q (.str "refused") H')
theorem sc_heard : FnScope ["_law_sizes_here", "e"] ["_law_sizes_here"] (defScope s_heard) := ⟨rfl, rfl, rfl, by decide +kernel, rfl, by decide +kernel, by decide +kernel⟩
theorem ok_heard {f f1 C fI : Addr} {fd fd1 : FuncData} (F : Fun K "_law_heard" "_law_heard" s_heard f fd) (B : Blt mg) (T : ErrTxt K mg "InvalidLengths" C fI)
    (Drb : Df K mg "row_by" s_row_by ["lengths"] f1 fd1) (Grb : FnOk P w K mg base (L2.CX P w) 4 f1 fd1 ["lengths"] (sp_rowby K C)) :
    FnG P w K mg base 5 f fd ["_law_sizes_here"] (sp_heard K) := by
  refine F.okG sc_heard (fun vs H Q E h => ?_) (fun cdv A outer s H vs Q E gd hr h => ?_)
  · obtain ⟨a, zs, rfl, _⟩ := h
    rfl
  · obtain ⟨a, zs, rfl, hs, hf, q, e⟩ := h
    have hu := hr.units
    refine ⟨_, pss_one (ps_try_as (i := 1) (Wout := fun _ _ _ _ => False) rfl rfl sc_heard.nd rfl rfl ⟨rfl, by decide, Or.inl T.gC⟩ takes0
      (fun W pn xe tk _ => pss_one (ps_ret (pe_callS Grb hr rfl Drb.g Drb.F.kp Drb.b (fun σ => passAt tk σ) (pa_cons (pv 0) pa_nil))))
      (fun a oe cls d pn hz hf => pss_one (ps_ret (pe_ifExp (pt_cmpR op_eq (pe_callB (reprK (K := K) rfl gd hu) (by rfl) B.repr boot_repr (pa_cons (pe_xf T.xf T.noV hz hf (pv 1)) pa_nil)) (pe_callB (reprK (K := K) rfl gd hu) (by rfl) B.repr boot_repr (pa_cons (pv 0) pa_nil)) (nomark _)) pe_str pe_str)))), ?_⟩
    obtain ⟨dd, fd', dp⟩ := hf.dp hs
    refine ⟨_, rfl, a, zs, rfl, hs, by have := hf.len; omega, fun n ok h0 H' L s' hL h' => q n ok h0 H' L s' hL h', fun nok d H' s' hd h' => ⟨true, T.te, fun _ x hx => ?_, fun z => nomatch z⟩⟩
    refine ⟨_, rfl, rfl, rfl, d, _, _, rfl, h', rfl, a, dd, rfl, dp _ s', fd', _, rfl, a, dd, rfl, dp _ s', fd', rfl, _, rfl, ?_⟩
    dsimp only
    rw [decide_eq_true rfl]
    exact iteT (e nok _ s')
end
end G0

set_option pp.oneline true
namespace G0
open PySem PySem.Spec PyProof.Rows L2
abbrev s_row_right : Stmt := top 30
/-- a def that may raise, where it does not -/
theorem fn_calm {P : Program} {w : World} {K : PySem.W.Frag} {mg : Str → Option Value} {base : Heap} {k : Nat} {f : Addr} {fd : FuncData} {ps : List Str} {sp : Sp} (F : FnOk P w K mg base (L2.CX P w) k f fd ps sp) : FnOk P w K mg base CX0 k f fd ps (fun vs H Q _ => sp vs H Q E0) := by
  constructor
  · exact fun vs H Q E h => F.len vs H Q E0 h
  · intro A outer s H args us vs Q E hr he hb hv hs
    refine codeAny_mono (F.run A outer s H args us vs Q E0 hr he hb hv hs) fun res s2 got => ?_
    match res, got with
    | .error e, got =>
      obtain ⟨_, _, _, _, _, _, _, _, _, _, _, _, z⟩ := (show L2.CX P w outer H s E0 e s2 from got)
      exact z.elim
    | .ok (.ret _), got => exact got
    | .ok .next, got => exact got
    | .ok .brk, got => exact got
    | .ok .cont, got => exact got
theorem Wd.weak {p : Addr} {D D' H : Hp} (w : Wd p D' H) (e : Same D D') : Wd p D H := ⟨e.trans w.s, e.free w.n, w.pot⟩
def sp_rowC (K : PySem.W.Frag) (C : Addr) : Sp := fun vs H Q _ => sp_rowby K C vs H Q E0
theorem rowC_of {K : PySem.W.Frag} {C a : Addr} {zs : List Int} {n : Int} {H : Hp} {Q : VK} (hs : Sq K H a (zs.map V.int)) (ok : Len zs) (h0 : zs[0]? = some n) (q : ∀ H' L, Same H H' → H L = none → H' L = some (.lst ((rowOf zs n.toNat).map V.int)) → Q (.ref L) H') : sp_rowC K C [.ref a] H Q E0 := by
  refine ⟨a, zs, rfl, hs, ?_, fun m _ hm => ?_, fun no => absurd ok no⟩
  · have h1 := len_gap ok h0
    have := ok.hi n (List.mem_of_getElem? h0)
    by_cases e : zs.length < 1000
    · exact e
    · exfalso
      have hl : zs[zs.length - 1]? = some (zs[zs.length - 1]'(by omega)) := List.getElem?_eq_getElem _
      have := h1 _ _ hl
      have := ok.pos _ (List.mem_of_getElem? hl)
      omega
  · rw [h0] at hm
    cases hm
    exact q
section
variable {P : Program} {w : World} {K : PySem.W.Frag} {mg : Str → Option Value} {base : Heap}
def sp_rr : Sp := fun vs H Q _ => ∃ (p l : Addr) (D : Hp) (ns : List Int), vs = [.ref p, .ref l] ∧ Wd p D H ∧ D l = some (.lst (ns.map V.int)) ∧ ns ≠ [] ∧ RowI ns ∧ ∀ H', Wd p D H' → Q (.bl true) H'
theorem sc_rr : FnScope ["_law_pot_here", "_law_numbers", "_law_given", "_law_due", "_law_kept", "_law_told"] ["_law_pot_here", "_law_numbers"] (defScope s_row_right) := ⟨rfl, rfl, rfl, by decide +kernel, rfl, by decide +kernel, by decide +kernel⟩
theorem ok_rr {C f f1 f2 f3 f4 f5 f6 : Addr} {fd fd1 fd2 fd3 fd4 fd5 fd6 : FuncData} (F : Fun K "_law_row_right" "_law_row_right" s_row_right f fd) (B : Blt mg)
    (Dpass : Df K mg "_law_passed" s_passed ["_law_pot_here", "_law_numbers"] f1 fd1) (Gpass : FnOk P w K mg base CX0 2 f1 fd1 ["_law_pot_here", "_law_numbers"] (sp_passed K))
    (Dsz : Df K mg "_law_sizes" s_sizes ["_law_numbers"] f2 fd2) (Gsz : FnOk P w K mg base CX0 1 f2 fd2 ["_law_numbers"] (sp_sizes K))
    (Dlen : Df K mg "lengths" s_lengths ["row"] f3 fd3) (Glen : FnOk P w K mg base CX0 6 f3 fd3 ["row"] (sp_lens K)) (Klen : KB fd3 ["row"] ["row"] 0)
    (Dare : Df K mg "_law_are_sizes" s_are ["_law_value"] f4 fd4) (Gare : FnOk P w K mg base CX0 1 f4 fd4 ["_law_value"] (sp_are K))
    (Drb : Df K mg "row_by" s_row_by ["lengths"] f5 fd5) (Grb : FnOk P w K mg base CX0 4 f5 fd5 ["lengths"] (sp_rowC K C)) (Krb : KB fd5 ["lengths"] ["lengths"] 0)
    (Dback : Df K mg "_law_back" s_back ["_law_sizes_here"] f6 fd6) (Gback : FnOk P w K mg base CX0 1 f6 fd6 ["_law_sizes_here"] (sp_back K)) :
    FnG P w K mg base 7 f fd ["_law_pot_here", "_law_numbers"] sp_rr := by
  refine F.okG sc_rr (fun vs H Q E h => ?_) (fun cdv A outer s H vs Q E gd hr h => ?_)
  · obtain ⟨p, l, D, ns, rfl, _⟩ := h
    rfl
  · obtain ⟨p, l, D, ns, rfl, wd, hl, ne, r, q⟩ := h
    have hu := hr.units
    have r1 : Room 1 _ := hr.mono (by decide)
    have r2 : Room 2 _ := hr.mono (by decide)
    have r4 : Room 4 _ := hr.mono (by decide)
    refine ⟨_, pss_cons (ps_par (i := 2) (j := 3) rfl sc_rr.nd rfl rfl (by decide) rfl rfl (pa_cons (pdf Dpass Gpass r2 (pa_cons (pv 0) (pa_cons (pv 1) pa_nil))) (pa_cons (pdf Dsz Gsz r1 (pa_cons (pv 1) pa_nil)) pa_nil)) (by rfl))
      (pss_cons (ps_par (i := 4) (j := 5) rfl sc_rr.nd rfl rfl (by decide) rfl rfl (pa_cons (pe_callB (call_repr gd hu) (by rfl) B.repr boot_repr (pa_cons (pv 2) pa_nil)) (pa_cons (pdf Dlen Glen hr (pa_cons (pv 2) pa_nil)) pa_nil)) (by rfl))
      (pss_cons (ps_if (PW.pt (pw_or (pt_not (pt_val (pe_callB (isiK (K := K) rfl) (by rfl) B.isinstance boot_isi (pa_cons (pv 5) (pa_cons (pty B.list boot_tlist) pa_nil))))) (pw_or (pt_cmpR (op_neD hu) (pv 5) (pv 3) (nomark _)) (pw_or (pt_cmpR (op_neD hu) (pe_callN (E := E0) Glen hr (by rfl) Dlen.g Dlen.F.kp Klen (pk_cons (pv 2) pk_nil)) (pv 3) (nomark _)) (pw_or (pt_cmpR op_ne (pe_callB (cr_sumA rfl) (by rfl) B.sum boot_sum (pa_cons (pv 3) pa_nil)) (pe_callB (cr_sumA rfl) (by rfl) B.sum boot_sum (pa_cons (pv 1) pa_nil)) (nomark _)) (pw_or1 (pt_cmpR op_ne (pe_ix ix_list (pv 3) pe_int (fun _ _ => rfl)) (pe_callB call_len_seq (by rfl) B.len PySem.boot_len (pa_cons (pv 1) pa_nil)) (nomark _)))))))) (pss_one (ps_ret pe_bl)) pss_nil)
      (pss_cons (ps_if (PW.pt (pw_or (pt_not (pt_val (pdf Dare Gare r1 (pa_cons (pv 3) pa_nil)))) (pw_or (pt_cmpR (op_neD hu) (pdf Drb Grb r4 (pa_cons (pv 5) pa_nil)) (pv 1) (nomark _)) (pw_or (pt_cmpR (op_neD hu) (pe_callN (E := E0) Grb r4 (by rfl) Drb.g Drb.F.kp Krb (pk_cons (pe_callTy call_tuple_of (by rfl) B.tuple boot_ttuple (pa_cons (pv 5) pa_nil)) pk_nil)) (pv 1) (nomark _)) (pw_or1 (pt_cmpR (op_neD hu) (pdf Dback Gback r1 (pa_cons (pv 3) pa_nil)) (pv 1) (nomark _))))))) (pss_one (ps_ret pe_bl)) pss_nil)
      (pss_cons (ps_expr (pe_bm PySem.F.plainAttrs_list PySem.F.slot_list_append PySem.F.type_list_append mt_append (pv 5) (pa_cons pe_non pa_nil)))
      (pss_cons (ps_expr (pe_bm PySem.F.plainAttrs_list PySem.F.slot_list_append PySem.F.type_list_append mt_append (pdf Drb Grb r4 (pa_cons (pv 3) pa_nil)) (pa_cons pe_non pa_nil)))
      (pss_one (ps_ret (pe_and (pe_cmpR (op_eqD hu) (pdf Dlen Glen hr (pa_cons (pv 2) pa_nil)) (pv 3) (nomark _)) (pe_and (pe_cmpR (op_eqD hu) (pdf Drb Grb r4 (pa_cons (pv 3) pa_nil)) (pv 1) (nomark _)) (pe_one (pe_cmpR op_eq (pe_callB (call_repr gd hu) (by rfl) B.repr boot_repr (pa_cons (pv 2) pa_nil)) (pv 4) (nomark _)))))))))))), ?_⟩
    have len : (ns.map V.int).length = ns.length := List.length_map ..
    have l9 := r.len
    have few : Few ns := ⟨by omega, fun n hn => by have := row_le r n hn; have := r.pos n hn; omega⟩
    refine ⟨_, rfl, _, rfl, p, l, D, _, rfl, wd, SqL.mk hl, fun v D1 H1 sD w1 hv => ?_⟩
    obtain ⟨g, rfl, hg, g0⟩ := hv
    have hl1 := sD _ _ hl
    obtain ⟨d, fd', dp⟩ := few.dp hg
    refine ⟨_, rfl, l, ns, rfl, SqL.mk (w1.s _ _ hl1), ne, r, fun m mm mx H2 due s2 hd0 hd2 => ⟨_, _, rfl, ?_⟩⟩
    obtain ⟨ok, back, sm, z0⟩ := row_sizes r mm mx
    have same_m : ∀ m', m' ∈ ns → (∀ y ∈ ns, y ≤ m') → m' = m := fun m' h1 h2 => by
      have := h2 m mm
      have := mx m' h1
      omega
    obtain ⟨zs, ez⟩ : ∃ zs, sizesI ns m.toNat = zs := ⟨_, rfl⟩
    have szs : ∀ m', m' ∈ ns → (∀ y ∈ ns, y ≤ m') → sizesI ns m'.toNat = zs := fun m' h1 h2 => by
      rw [same_m m' h1 h2]
      exact ez
    rw [ez] at ok back sm z0 hd2
    clear ez same_m mm mx
    have zl : zs.length < 1000 := by
      by_cases e : zs.length < 1000
      · exact e
      · exfalso
        have hl : zs[zs.length - 1]? = some (zs[zs.length - 1]'(by omega)) := List.getElem?_eq_getElem _
        have := len_gap ok z0 _ _ hl
        have := ok.pos _ (List.mem_of_getElem? hl)
        omega
    have w2 := (w1.pure s2).got (w1.s.free hd0) (w1.ne hd0) hd2
    have sD2 := same_new (o := .lst (zs.map V.int)) (w1.s.free hd0)
    have zd : (upd D1 due (.lst (zs.map V.int))) due = some (.lst (zs.map V.int)) := upd_same
    revert w2 sD2 zd
    generalize upd D1 due (.lst (zs.map V.int)) = D2
    intro w2 sD2 zd
    have hl2 := sD2 _ _ hl1
    have dpg : ∀ H, Same D2 H → Dp K H (.ref g) d := fun H s => dp H (sD2.trans s)
    have hg2 := hg.same sD2
    clear dp hg w1 hl1 hd2
    have ezz : ∀ xs : List Int, PyData.eqv (dLst xs) (dLst xs) = true := fun xs => by rw [eqv_lst]; simp
    have nzz : ∀ xs : List Int, (!PyData.eqv (dLst xs) (dLst xs)) = false := fun xs => by rw [ezz]; rfl
    have nvv : ∀ x : V, (!decide (x = x)) = false := fun x => by simp
    have tn : ((ns.length : Nat) : Int).toNat = ns.length := by omega
    have roq : ∀ {H : Hp} {a : Addr} {Q : VK}, Sq K H a (zs.map V.int) → (∀ H' L, Same H H' → H L = none → H' L = some (.lst (ns.map V.int)) → Q (.ref L) H') → sp_rowC K C [.ref a] H Q E0 := fun hs q => rowC_of hs ok z0 fun H' L s hL h => by
      rw [tn, back] at h
      exact q H' L s hL h
    have at0 : atI (zs.map V.int) 0 = some (V.int (ns.length : Nat)) := atI_nat (xs := zs.map V.int) (j := 0) (by rw [List.getElem?_map, z0]; rfl)
    have zlen : (zs.map V.int).length = zs.length := List.length_map ..
    refine ⟨_, rfl, g, d, rfl, dpg _ w2.s, fd', _, rfl, g, ns, rfl, hg2.same w2.s, ne, r, fun m1 h1 h2 H3 T s3 hT0 hT => ⟨_, _, rfl, ?_⟩⟩
    rw [szs m1 h1 h2] at hT
    have w3 := w2.pure s3
    refine ⟨_, rfl, _, _, _, _, true, rfl, .ty "list", ty_l (SqL.mk hT), kit_ll, true, rfl, iteF ?_⟩
    refine ⟨_, rfl, _, rfl, dLst zs, dLst zs, dp_lst (SqL.mk hT), dp_lst (SqL.mk (w3.s _ _ zd)), shaped_lst _, shaped_lst _, _, rfl, ?_⟩
    rw [nzz]
    refine iteF ⟨_, rfl, rfl, g, ns, rfl, hg2.same w3.s, ne, r, fun m1 h1 h2 H4 T2 s4 hT20 hT2 => ?_⟩
    rw [szs m1 h1 h2] at hT2
    have w4 := w3.pure s4
    refine ⟨_, rfl, dLst zs, dLst zs, dp_lst (SqL.mk hT2), dp_lst (SqL.mk (w4.s _ _ zd)), shaped_lst _, shaped_lst _, _, rfl, ?_⟩
    rw [nzz]
    refine iteF ⟨_, rfl, due, zs, rfl, .inl (SqL.mk (w4.s _ _ zd)), _, rfl, l, ns, rfl, .inl (SqL.mk (w4.s _ _ hl2)), rfl, _, rfl, ?_⟩
    rw [sm, nvv]
    refine iteF ⟨_, rfl, due, _, _, _, rfl, rfl, SqL.mk (w4.s _ _ zd), at0, _, rfl, l, _, rfl, .inl (SqL.mk (w4.s _ _ hl2)), rfl, _, rfl, ?_⟩
    rw [len, nvv]
    refine iteF ?_
    dsimp only [tNext]
    -- are_sizes, row_by, back
    refine ⟨_, rfl, due, zs, rfl, SqL.mk (w4.s _ _ zd), zl, fun H5 s5 => ⟨_, rfl, ?_⟩⟩
    rw [(len_iff zs).mpr ok]
    have w5 := w4.pure s5
    have hT5 := (s4.trans s5) _ _ hT
    refine iteF ⟨_, rfl, roq (.inl (SqL.mk hT5)) fun H6 L6 s6 _ h6 => ?_⟩
    have w6 := w5.pure s6
    refine ⟨_, rfl, dLst ns, dLst ns, dp_lst (SqL.mk h6), dp_lst (SqL.mk (w6.s _ _ hl2)), shaped_lst _, shaped_lst _, _, rfl, ?_⟩
    rw [nzz]
    refine iteF ⟨_, rfl, T, _, rfl, .inl ⟨SqL.mk (s6 _ _ hT5), fun t ht => ⟨rfl, ?_⟩⟩⟩
    have s7 := same_new (o := .tup (zs.map V.int)) ht
    refine roq (.inr (SqT.mk upd_same)) fun H8 L8 s8 _ h8 => ?_
    have w8 := (w6.pure s7).pure s8
    refine ⟨_, rfl, dLst ns, dLst ns, dp_lst (SqL.mk h8), dp_lst (SqL.mk (w8.s _ _ hl2)), shaped_lst _, shaped_lst _, _, rfl, ?_⟩
    rw [nzz]
    refine iteF ⟨_, rfl, due, zs, _, rfl, SqL.mk (w8.s _ _ zd), ok, z0, fun H9 L9 s9 _ h9 => ?_⟩
    rw [tn, back] at h9
    have w9 := w8.pure s9
    refine ⟨_, rfl, dLst ns, dLst ns, dp_lst (SqL.mk h9), dp_lst (SqL.mk (w9.s _ _ hl2)), shaped_lst _, shaped_lst _, _, rfl, ?_⟩
    rw [nzz]
    refine iteF ?_
    dsimp only [tNext]
    -- told.append(None)
    have hT9 := ((s6.trans s7).trans (s8.trans s9)) _ _ hT5
    have T0 : D2 T = none := w2.s.free hT0
    have Tp : T ≠ p := w2.ne hT0
    refine ⟨_, rfl, .inl ⟨rfl, _, SqL.mk hT9⟩, T, _, _, rfl, rfl, hT9, by rw [zlen, sizeLine_eq]; omega, ?_⟩
    have w10 := w9.over (o := .lst (zs.map V.int ++ [.non])) T0 Tp
    revert w10
    generalize upd H9 T (.lst (zs.map V.int ++ [.non])) = H10
    intro w10
    clear hT9 w9 w8 w6 w5 w4 w3 hT5
    -- row_by(due).append(None)
    refine ⟨_, rfl, roq (.inl (SqL.mk (w10.s _ _ zd))) fun H11 L11 s11 hL11 h11 => ?_⟩
    have w11 := w10.pure s11
    refine ⟨.inl ⟨rfl, _, SqL.mk h11⟩, L11, _, _, rfl, rfl, h11, by rw [len, sizeLine_eq]; omega, ?_⟩
    have w12 := w11.over (o := .lst (ns.map V.int ++ [.non])) (w10.s.free hL11) (w10.ne hL11)
    revert w12
    generalize upd H11 L11 (.lst (ns.map V.int ++ [.non])) = H12
    intro w12
    clear w11 h11 hL11 s11
    refine ⟨_, rfl, g, ns, rfl, hg2.same w12.s, ne, r, fun m1 h1 h2 H13 T3 s13 _ h13 => ?_⟩
    rw [szs m1 h1 h2] at h13
    have w13 := w12.pure s13
    refine ⟨_, rfl, dLst zs, dLst zs, dp_lst (SqL.mk h13), dp_lst (SqL.mk (w13.s _ _ zd)), shaped_lst _, shaped_lst _, _, rfl, ?_⟩
    rw [ezz]
    refine iteT ⟨_, rfl, roq (.inl (SqL.mk (w13.s _ _ zd))) fun H14 L14 s14 _ h14 => ?_⟩
    have w14 := w13.pure s14
    refine ⟨_, rfl, dLst ns, dLst ns, dp_lst (SqL.mk h14), dp_lst (SqL.mk (w14.s _ _ hl2)), shaped_lst _, shaped_lst _, _, rfl, ?_⟩
    rw [ezz]
    refine iteT ⟨_, rfl, g, d, rfl, dpg _ w14.s, fd', _, rfl, rfl, ?_⟩
    dsimp only
    rw [decide_eq_true rfl]
    exact q _ (w14.weak (sD.trans sD2))
end
end G0

namespace G0
open PySem PySem.Spec PyProof.Rows L2
/-- a set as it is made -/
abbrev set0 (w : World) : Obj := { cls := .type "set", dict := none, data := .set #[] 0 (.fresh 0 0 (!w.params.followText "set-order")) }
set_option maxHeartbeats 8000000 in
theorem set_of_list {P : Program} {w : World} {A : Around} {E : Value → Shared → Prop} {s : Shared} {l : Addr} {its : Array Value} (ns : List Int) {Q : Value → Shared → Prop} (cool : A.handled = none) (isL : s.heap.IsList l its) (areI : IntsAre its.toList ns) (few : ns.length + 1 < scanBound)
    (go : ∀ (h' : Heap) (tk c : Nat), SetR w h' s.heap.objs.size (fun j => decide (j ∈ ns)) c → c ≤ ns.length → (∀ b o, s.heap.get? b = some o → h'.get? b = some o) → Q (.ref s.heap.objs.size) { s with heap := h', toks := tk }) :
    wpAny (model P w) A (call (.type "set") [.ref l]) Q E s := by
  have size_is : its.size = ns.length := (Array.length_toList (xs := its)).symm.trans (IntsAre.length areI)
  obtain ⟨_, _, q1⟩ := F.called_set.mro; have q2 := F.called_set.made; have q3 := F.called_set.sub
  refine wpAny_call (codeAny_of_tree (show wpAny _ _ (callAny (.type "set") _) _ _ _ from ?_))
  apply wpAny_pure; refine And.intro (Code.quiet_builtin _ (by decide +kernel)) (codeAny_builtin F.entry_type_call ?_); rw [Around.under_plain (weight_type_call_type "set" [.ref l] []) rfl]
  have q4 := F.called_set.notType; have q5 := F.called_set.canCreate; have q6 := F.typeCall_set_1 (.ref l)
  repeat (any_goals (first | assumption | wp_step))
  refine codeAny_mono (code_set_led1 (.ref l) (E := E) (Q₁ := fun obj s1 => obj = .ref s.heap.objs.size ∧ s1 = { s with heap := s.heap.push (set0 w) }) ⟨rfl, rfl⟩) fun r s1 hr => ?_
  match r, hr with
  | .error e, hr => exact hr
  | .ok (.ret obj), hr =>
    obtain ⟨rfl, rfl⟩ := hr
    have at0 : (s.heap.push (set0 w)).get? s.heap.objs.size = some (set0 w) := Heap.get?_push_size _ rfl
    have ty : Shared.TypeIs { s with heap := s.heap.push (set0 w) } (.ref s.heap.objs.size) "set" := ⟨_, at0, rfl⟩
    have q7 := F.called_set.init.lookup; have q8 := F.called_set.init.bind (.ref s.heap.objs.size)
    repeat (any_goals (first | assumption | wp_step))
    refine codeAny_mono (codeAny_call_builtin (R := wants (fun r2 s2 => r2 = .none ∧ ∃ h' tk c, s2 = { s with heap := h', toks := tk } ∧ SetR w h' s.heap.objs.size (fun j => decide (j ∈ ns)) c ∧ c ≤ ns.length ∧ ∀ b o, s.heap.get? b = some o → h'.get? b = some o) E) F.called_set.init.plain F.entry_set_init (check_set_init_1 ty ?_)) fun r2 s2 hr2 => ?_
    · obtain ⟨⟨oc, od, oda, osl⟩, lookL, clsL, nn, datL⟩ := isL
      dsimp only at clsL datL; subst clsL; subst datL
      have look1 : (s.heap.push (set0 w)).get? l = some ⟨.type "list", od, .seq its nn, osl⟩ := Heap.get?_push_of_some _ lookL
      have p1 := F.sub_list_set; have p2 := F.sub_list_frozenset; have p3 : (Value.type "list" == Value.type "dict") = false := by decide
      have isL1 : (s.heap.push (set0 w)).IsList l its := ⟨_, look1, rfl, nn, rfl⟩
      unfold Builtin.«set.__init__» noKeywords Builtin.Frozenset.updateFrom; generalize e : pyIter = iterF; wp_walk; subst e
      refine wpAny_pyIter_list isL1 (wpAny_bind (wpAny_runValue ?_))
      have old : l < s.heap.objs.size := Heap.lt_size lookL
      have sz : (s.heap.push (set0 w)).objs.size = s.heap.objs.size + 1 := Heap.size_push ..
      have l_it : l ≠ (s.heap.push (set0 w)).objs.size := by rw [sz]; exact Nat.ne_of_lt (Nat.lt_succ_of_lt old)
      have out : s.heap.objs.size ∉ [(s.heap.push (set0 w)).objs.size, l] := by
        rw [sz]; intro m; rcases List.mem_cons.mp m with m | m
        · exact Nat.ne_of_lt (Nat.lt_succ_self _) m
        · exact Nat.ne_of_gt old (List.mem_singleton.mp m)
      have vals : ∀ (i : Nat) (v : Value), its[i]? = some v → ∃ k t, ns[i]? = some k ∧ v = .int k t := fun i v hv => by
        obtain ⟨t, ev⟩ := PyProof.Rows.IntsAre.int_at areI i v (by simpa using hv)
        have il : i < ns.length := size_is ▸ (Array.getElem?_eq_some_iff.mp hv).1
        exact ⟨ns[i], t, List.getElem?_eq_getElem il, by rw [ev, List.getD_eq_getElem?_getD, List.getElem?_eq_getElem il]; rfl⟩
      refine set_update_ints ((Walks.list (show A.in1.in1.in1.handled = none by simp [cool]) _ l l_it its).toS) s.heap.objs.size out ns size_is few vals (its.size - 0) 0 _ (by omega) (Nat.zero_le _) ⟨⟨_, Heap.get?_push_size _ rfl, rfl, rfl⟩, isL1.push _⟩ ⟨0, Nat.le_refl 0, setR_new_at (Heap.get?_push_of_some _ at0)⟩ ?_
      rintro ⟨h', g2, d2, t2, o2⟩ c2 mv le2 R2
      obtain rfl : g2 = s.gens := mv.gens; obtain rfl : d2 = s.drawn := mv.drawn; obtain rfl : o2 = s.os := mv.os
      refine wpAny_pure (show wpAny _ _ (ret Value.none) _ _ _ from wpAny_pure ⟨rfl, h', t2, c2, rfl, R2, size_is ▸ le2, fun b o eb => mv.heap b o (fun m => ?_) (Heap.get?_push_of_some _ (Heap.get?_push_of_some _ eb))⟩)
      have bl := Heap.lt_size eb
      rcases List.mem_cons.mp m with m | m
      · exact Nat.ne_of_lt bl m
      · rw [sz] at m; exact Nat.ne_of_lt (Nat.lt_succ_of_lt bl) (List.mem_singleton.mp m)
    · match r2, hr2 with
      | .error e, hr2 => exact hr2
      | .ok (.ret v), hr2 =>
        obtain ⟨rfl, h', t2, c2, rfl, R2, le2, keep⟩ := hr2
        repeat (any_goals (first | assumption | wp_step))
        exact go _ _ _ R2 le2 keep
/-- set(xs), xs a list of ints -/
theorem cr_setI {X : Cx} (calm : X.calm = true) : CallR X (.type "set") (fun xs H Q => ∃ (l : Addr) (ns : List Int), xs = [V.ref l] ∧ SqL X.K H l (ns.map V.int) ∧ ns.length < 1000 ∧ ∀ p c, H p = none → c ≤ ns.length → Q (.ref p) (upd H p (SetO X.w p (fun j => decide (j ∈ ns)) c))) := by
  intro pn s σ H xs us Q J r h
  obtain ⟨l, ns, rfl, hs, few, q⟩ := h
  obtain ⟨its, rv, pl, _⟩ := J.list hs
  rw [Vals.ref1 r]
  refine set_of_list ns (J.ok.hd calm) pl.isList rv.ints (by unfold scanBound; omega) fun h' tk c R le keep => ?_
  exact ⟨.ref _, upd H s.heap.objs.size (SetO X.w s.heap.objs.size (fun j => decide (j ∈ ns)) c), J.laid (t' := tk) keep (Nat.le_refl _) (setO_new R), rfl, q _ c (J.hok.fresh (Nat.le_refl _)) le⟩
end G0

set_option pp.oneline true
namespace G0
open PySem PySem.Spec PyProof.Rows L2
abbrev s_drawn : Stmt := top 31
theorem boot_tset : bootBuiltins "set" = some (.type "set") := by decide +kernel
section
variable {P : Program} {w : World} {K : PySem.W.Frag} {mg : Str → Option Value} {base : Heap}
def sp_drawn : Sp := fun vs H Q _ => ∃ (p : Addr) (D : Hp), vs = [.ref p] ∧ Wd p D H ∧ ∀ H', Wd p D H' → Q (.bl true) H'
theorem sc_drawn : FnScope ["_law_pot_here", "_law_drawn", "_law_turn", "_law_some", "_law_sizes_here", "_law_given", "_law_told"] ["_law_pot_here"] (defScope s_drawn) := ⟨rfl, rfl, rfl, by decide +kernel, rfl, by decide +kernel, by decide +kernel⟩
theorem ok_drawn {f f1 f2 f3 f4 f5 f6 f7 : Addr} {fd fd1 fd2 fd3 fd4 fd5 fd6 fd7 : FuncData} (F : Fun K "_law_drawn_right" "_law_drawn_right" s_drawn f fd) (B : Blt mg) (nSet : mg "set" = none)
    (Ddraw : Df K mg "_law_draw" s_draw ["_law_pot_here", "_law_size"] f1 fd1) (Gdraw : FnOk P w K mg base CX0 1 f1 fd1 ["_law_pot_here", "_law_size"] sp_draw)
    (Dpass : Df K mg "_law_passed" s_passed ["_law_pot_here", "_law_numbers"] f2 fd2) (Gpass : FnOk P w K mg base CX0 2 f2 fd2 ["_law_pot_here", "_law_numbers"] (sp_passed K))
    (Dhd : Df K mg "_law_heard" s_heard ["_law_sizes_here"] f3 fd3) (Ghd : FnG P w K mg base 5 f3 fd3 ["_law_sizes_here"] (sp_heard K))
    (Dare : Df K mg "_law_are_sizes" s_are ["_law_value"] f4 fd4) (Gare : FnOk P w K mg base CX0 1 f4 fd4 ["_law_value"] (sp_are K))
    (Dback : Df K mg "_law_back" s_back ["_law_sizes_here"] f5 fd5) (Gback : FnOk P w K mg base CX0 1 f5 fd5 ["_law_sizes_here"] (sp_back K))
    (Drow : Df K mg "is_row" s_is_row ["value"] f6 fd6) (Grow : FnOk P w K mg base CX0 4 f6 fd6 ["value"] (sp_rowA K))
    (Dlen : Df K mg "lengths" s_lengths ["row"] f7 fd7) (Glen : FnOk P w K mg base CX0 6 f7 fd7 ["row"] (sp_lens K)) :
    FnG P w K mg base 7 f fd ["_law_pot_here"] sp_drawn := by
  refine F.okG sc_drawn (fun vs H Q E h => ?_) (fun cdv A outer s H vs Q E gd hr h => ?_)
  · obtain ⟨p, D, rfl, _⟩ := h
    rfl
  · obtain ⟨p, D, rfl, wd, q⟩ := h
    have hu := hr.units
    have r1 : Room 1 _ := hr.mono (by decide)
    have r2 : Room 2 _ := hr.mono (by decide)
    have r4 : Room 4 _ := hr.mono (by decide)
    have r5 : Room 5 _ := hr.mono (by decide)
    refine ⟨_, pss_cons (ps_set (i := 1) sc_drawn.nd rfl (Or.inl rfl) (pe_lst pa_nil))
      (pss_cons (ps_for PassesOwn.never rfl (pi_range1 (by rfl) B.range (pa_cons (pe_op op_add pe_int (pdf Ddraw Gdraw r1 (pa_cons (pv 0) (pa_cons pe_int pa_nil)))) pa_nil)) (pg_name (i := 2) sc_drawn.nd rfl (Or.inl rfl)) (pss_one (ps_expr (pe_bm PySem.F.plainAttrs_list PySem.F.slot_list_append PySem.F.type_list_append mt_append (pv 1) (pa_cons (pdf Ddraw Gdraw r1 (pa_cons (pv 0) (pa_cons pe_int pa_nil))) pa_nil)))))
      (pss_cons (ps_set (i := 3) sc_drawn.nd rfl (Or.inl rfl) (pe_lst (pa_cons (pv 1) (pa_cons (pe_revL (pe_callB cr_sorted (by rfl) B.sorted boot_sorted (pa_cons (pv 1) pa_nil))) (pa_cons (pe_revL (pe_callB (cr_sortedSet rfl) (by rfl) B.sorted boot_sorted (pa_cons (pe_callTy (cr_setI rfl) (by rfl) nSet boot_tset (pa_cons (pv 1) pa_nil)) pa_nil))) pa_nil)))))
      (pss_cons (ps_for PassesOwn.never rfl (pi_list (pv 3)) (pg_name (i := 4) sc_drawn.nd rfl (Or.inl rfl)) (pss_cons (ps_set (i := 5) sc_drawn.nd rfl (Or.inl rfl) (pdf Dpass Gpass r2 (pa_cons (pv 0) (pa_cons (pv 4) pa_nil))))
        (pss_cons (ps_set (i := 6) sc_drawn.nd rfl (Or.inl rfl) (pe_callG (E := E0) Ghd gd r5 (by rfl) Dhd.g Dhd.F.kp Dhd.b .nil (pa_cons (pv 5) pa_nil)))
        (pss_one (ps_if (pt_not (pt_val (pdf Dare Gare r1 (pa_cons (pv 4) pa_nil)))) (pss_one (ps_if (pt_cmpR op_ne (pv 6) pe_str (nomark _)) (pss_one (ps_ret pe_bl)) pss_nil)) (pss_one (ps_if (PW.pt (pw_or (pt_cmpR (op_neD hu) (pv 6) (pdf Dback Gback r1 (pa_cons (pv 4) pa_nil)) (nomark _)) (pw_or (pt_cmpR op_notBl (pdf Drow Grow r4 (pa_cons (pv 6) pa_nil)) pe_bl (nomark _)) (pw_or1 (pt_cmpR (op_neD hu) (pdf Dlen Glen hr (pa_cons (pv 6) pa_nil)) (pv 4) (nomark _)))))) (pss_one (ps_ret pe_bl)) pss_nil)))))))
      (pss_one (ps_ret pe_bl))))), ?_⟩
    refine ⟨by show 0 ≤ sizeLine; decide, fun L hL => ?_⟩
    have L0 := wd.s.free hL
    have Lp := wd.ne hL
    obtain ⟨w2, s2, h2⟩ := wd.new (same_new (o := .lst []) hL) hL upd_same
    refine ⟨_, rfl, p, 4, _, rfl, w2, by decide, by decide, fun H3 d w3 d0 d1 => ⟨_, _, rfl, rfl, ?_⟩⟩
    refine ⟨_, rfl, by omega, by omega, for_range (n := (1 + d).toNat) (fun i σ H5 => ∃ (ms : List Int) (y1 : Option V), σ = [some (.ref p), some (.ref L), y1, none, none, none, none] ∧ Wd p (upd D L (.lst (ms.map V.int))) H5 ∧ ms.length = i ∧ ∀ m ∈ ms, 0 ≤ m ∧ m < 1000) ⟨[], none, rfl, w3, rfl, fun m hm => by cases hm⟩ ?_ ?_⟩
    · rintro i σ H5 hi ⟨ms, y1, rfl, w5, ml, mb⟩
      have hL5 : H5 L = some (.lst (ms.map V.int)) := w5.s _ _ upd_same
      refine ⟨_, rfl, .inl ⟨rfl, _, SqL.mk hL5⟩, _, rfl, p, 11, _, rfl, w5, by decide, by decide, fun H6 d3 w6 f0 f1 => ?_⟩
      have hL6 : H6 L = some (.lst (ms.map V.int)) := w6.s _ _ upd_same
      refine ⟨L, _, _, rfl, rfl, hL6, by rw [List.length_map, sizeLine_eq]; omega, ?_⟩
      refine ⟨ms ++ [d3], _, rfl, ?_, by simp [ml], fun m hm => ?_⟩
      · have e : (ms.map V.int) ++ [V.int d3] = ((ms ++ [d3]).map V.int) := by simp
        rw [e]
        exact (w6.put L0 Lp).got L0 Lp upd_same
      · rcases List.mem_append.mp hm with hm | hm
        · exact mb m hm
        · rw [List.mem_singleton.mp hm]
          exact ⟨f0, by omega⟩
    · rintro σ H5 ⟨ms, y1, rfl, w5, ml, mb⟩
      have hL5 : H5 L = some (.lst (ms.map V.int)) := w5.s _ _ upd_same
      have ml5 : ms.length ≤ 4 := by omega
      have sD1 : Same D (upd D L (.lst (ms.map V.int))) := same_new L0
      have zD1 : (upd D L (.lst (ms.map V.int))) L = some (.lst (ms.map V.int)) := upd_same
      revert w5 sD1 zD1
      generalize upd D L (.lst (ms.map V.int)) = D1
      intro w5 sD1 zD1
      refine ⟨_, rfl, _, rfl, L, ms, rfl, SqL.mk hL5, by omega, fun ns1 A1 pe1 so1 hA1 => ?_⟩
      have wA := w5.pure (same_new (o := .lst (ns1.map V.int)) hA1)
      refine ⟨A1, _, rfl, SqL.mk upd_same, fun R1 hR1 => ?_⟩
      obtain ⟨wB, sB, zB⟩ := wA.new (same_new (o := .lst (ns1.map V.int).reverse) hR1) hR1 upd_same
      refine ⟨_, rfl, L, ms, rfl, SqL.mk (wB.s _ _ (sB _ _ zD1)), by omega, fun S1 c1 hS1 lc1 => ?_⟩
      have wC := wB.pure (same_new (o := SetO w S1 (fun j => decide (j ∈ ms)) c1) hS1)
      refine ⟨S1, _, c1, rfl, upd_same, by omega, fun ns2 A2 so2 me2 le2 hA2 => ?_⟩
      have wD := wC.pure (same_new (o := .lst (ns2.map V.int)) hA2)
      refine ⟨A2, _, rfl, SqL.mk upd_same, fun R2 hR2 => ?_⟩
      obtain ⟨wE, sE, zE⟩ := wD.new (same_new (o := .lst (ns2.map V.int).reverse) hR2) hR2 upd_same
      refine ⟨by show 3 ≤ sizeLine; decide, fun LS hLS => ?_⟩
      obtain ⟨wF, sF, zF⟩ := wE.new (same_new (o := .lst [.ref L, .ref R1, .ref R2]) hLS) hLS upd_same
      have zB4 := sF _ _ (sE _ _ zB)
      have zE4 := sF _ _ zE
      have zL4 := sF _ _ (sE _ _ (sB _ _ zD1))
      have sD4 := ((sD1.trans sB).trans sE).trans sF
      revert wF zB4 zE4 zL4 sD4 zF
      generalize upd (upd (upd D1 R1 (HO.lst (ns1.map V.int).reverse)) R2 (HO.lst (ns2.map V.int).reverse)) LS (HO.lst [.ref L, .ref R1, .ref R2]) = D4
      intro wF zF zB4 zE4 zL4 sD4
      clear wA wB wC wD wE sB sE sF zB zE w5 zD1 sD1
      rw [← List.map_reverse] at zB4 zE4
      have few : Few ms := ⟨by omega, fun m hm => by have := mb m hm; omega⟩
      have all : ∀ x ∈ [V.ref L, .ref R1, .ref R2], ∃ l zs, x = V.ref l ∧ D4 l = some (.lst (zs.map V.int)) ∧ Few zs := fun x hx => by
        simp only [List.mem_cons, List.not_mem_nil, or_false] at hx
        rcases hx with rfl | rfl | rfl
        · exact ⟨_, _, rfl, zL4, few⟩
        · exact ⟨_, _, rfl, zB4, by rw [List.length_reverse, pe1.length_eq]; omega, fun m hm => few.sm m (pe1.mem_iff.mp (List.mem_reverse.mp hm))⟩
        · exact ⟨_, _, rfl, zE4, by rw [List.length_reverse, le2]; omega, fun m hm => few.sm m (of_decide_eq_true ((me2 m).mp (List.mem_reverse.mp hm)))⟩
      refine ⟨_, rfl, LS, rfl, ⟨_, SqL.mk (wF.s _ _ zF)⟩, for_list (xs := [V.ref L, .ref R1, .ref R2]) (fun k σ H5 => ∃ y4 y5 y6, σ = [some (.ref p), some (.ref L), y1, some (.ref LS), y4, y5, y6] ∧ Wd p D4 H5) ⟨none, none, none, rfl, wF⟩ (fun k σ H5 _ h => ?_) (fun k x σ H5 hx h => ?_) (fun σ H5 h => ?_)⟩
      · obtain ⟨y4, y5, y6, rfl, wG⟩ := h
        exact SqL.mk (wG.s _ _ zF)
      · obtain ⟨y4, y5, y6, rfl, wG⟩ := h
        obtain ⟨l, zs, rfl, hl, fz⟩ := all x (List.mem_of_getElem? hx)
        have zl := fz.len
        refine ⟨_, rfl, _, rfl, p, l, D4, _, rfl, wG, SqL.mk hl, fun v D5 H6 sD w6 hv => ?_⟩
        obtain ⟨g, rfl, hg, g0⟩ := hv
        have hl5 := sD _ _ hl
        refine ⟨_, rfl, g, zs, rfl, hg.same w6.s, fz, fun n ok h0 H7 T7 s7 _ h7 => ⟨_, rfl, l, zs, rfl, SqL.mk (s7 _ _ (w6.s _ _ hl5)), by omega, fun H8 s8 => ⟨_, rfl, ?_⟩⟩, fun nok H7 s7 => ⟨_, rfl, l, zs, rfl, SqL.mk (s7 _ _ (w6.s _ _ hl5)), by omega, fun H8 s8 => ⟨_, rfl, ?_⟩⟩⟩
        · obtain ⟨rI, rne, rle, rmem, rsz⟩ := sizes_row ok h0
          rw [(len_iff zs).mpr ok]
          have w8 := (w6.pure s7).pure s8
          have hT8 := s8 _ _ h7
          have nzz : ∀ xs : List Int, (!PyData.eqv (dLst xs) (dLst xs)) = false := fun xs => by rw [eqv_lst]; simp
          refine iteF ⟨_, rfl, _, rfl, l, zs, n, rfl, SqL.mk (w8.s _ _ hl5), ok, h0, fun H9 L9 s9 _ h9 => ?_⟩
          revert h9 hT8 rI rne rle rmem rsz
          generalize rowOf zs n.toNat = rs
          intro rI rne rle rmem rsz hT8 h9
          have r9 := rI.len
          have w9 := w8.pure s9
          have hT9 := s9 _ _ hT8
          refine ⟨dLst rs, dLst rs, dp_lst (SqL.mk hT9), dp_lst (SqL.mk h9), shaped_lst _, shaped_lst _, _, rfl, ?_⟩
          rw [nzz]
          refine iteF ⟨_, rfl, .ref T7, _, rfl, av_ints (.inl (SqL.mk hT9)), fun xs e => ?_, fun H10 s10 => ?_⟩
          · cases e
            rw [List.length_map]
            omega
          rw [rowB_true rne (fun n hn => by have := rI.pos n hn; omega) ((row_iff rs).mp rI)]
          have w10 := w9.pure s10
          have hT10 := s10 _ _ hT9
          refine ⟨_, _, rfl, rfl, _, rfl, iteF ⟨_, rfl, T7, rs, rfl, .inl (SqL.mk hT10), rne, rI, fun m mm mx H11 L11 s11 _ h11 => ?_⟩⟩
          have em : m = (zs.length : Int) := by
            have := rle m mm
            have := mx _ rmem
            omega
          rw [em, show ((zs.length : Nat) : Int).toNat = zs.length by omega, rsz] at h11
          have w11 := w10.pure s11
          refine ⟨_, rfl, dLst zs, dLst zs, dp_lst (SqL.mk h11), dp_lst (SqL.mk (w11.s _ _ hl5)), shaped_lst _, shaped_lst _, _, rfl, ?_⟩
          rw [nzz]
          exact iteF ⟨_, _, _, rfl, w11.weak sD⟩
        · have nb : LenB zs = false := by rw [Bool.eq_false_iff]; exact fun e => nok ((len_iff zs).mp e)
          rw [nb]
          have w8 := (w6.pure s7).pure s8
          refine iteT ⟨_, rfl, rfl, _, rfl, ?_⟩
          rw [show (!decide (V.str (Str.ofString "refused") = V.str (Str.ofString "refused"))) = false by simp]
          exact iteF ⟨_, _, _, rfl, w8.weak sD⟩
      · obtain ⟨y4, y5, y6, rfl, wG⟩ := h
        exact q _ (wG.weak sD4)
end
end G0

set_option pp.oneline true
namespace G0
open PySem PySem.Spec PyProof.Rows L2
abbrev s_longer : Stmt := top 32
theorem Len.len9 {zs : List Int} {n : Int} (ok : Len zs) (h0 : zs[0]? = some n) : zs.length ≤ 9 := by
  have := ok.hi n (List.mem_of_getElem? h0)
  have zl : 0 < zs.length := (List.getElem?_eq_some_iff.mp h0).1
  have hl : zs[zs.length - 1]? = some (zs[zs.length - 1]'(by omega)) := List.getElem?_eq_getElem _
  have := len_gap ok h0 _ _ hl
  have := ok.pos _ (List.mem_of_getElem? hl)
  omega
theorem cut_neg1 (xs : List V) (x : V) : cutV (xs ++ [x]) none (some (-1)) = xs := by
  unfold cutV HT.sIx
  have e : (-1 + ((xs.length : Int) + 1)).toNat = xs.length := by omega
  simp [e]
theorem iteQ {b : Bool} {ta tb : TE} {σ : L2.St} {H : Hp} {Q : VK} (R : V → Hp → Prop) (m1 : b = true → ∀ Q', (∀ x H', R x H' → Q' x H') → ta σ H Q') (m2 : b = false → ∀ Q', (∀ x H', R x H' → Q' x H') → tb σ H Q') (q : ∀ x H', R x H' → Q x H') : if b = true then ta σ H Q else tb σ H Q := by
  cases b with
  | true => exact iteT (m1 rfl _ q)
  | false => exact iteF (m2 rfl _ q)
theorem few_of {xs : List Int} (l : xs.length ≤ 100) (h : ∀ n ∈ xs, 0 ≤ n ∧ n ≤ 10) : Few xs := ⟨l, fun n hn => by have := h n hn; omega⟩
section
variable {P : Program} {w : World} {K : PySem.W.Frag} {mg : Str → Option Value} {base : Heap}
def sp_longer : Sp := fun vs H Q _ => ∃ (p l : Addr) (ns : List Int), vs = [.ref p, .ref l] ∧ H l = some (.lst (ns.map V.int)) ∧ ns ≠ [] ∧ RowI ns ∧ ∀ H', Same H H' → Q (.bl true) H'
theorem sc_longer : FnScope ["_law_pot_here", "_law_numbers", "_law_sizes_here", "_law_some", "_law_other", "_law_due"] ["_law_pot_here", "_law_numbers"] (defScope s_longer) := ⟨rfl, rfl, rfl, by decide +kernel, rfl, by decide +kernel, by decide +kernel⟩
theorem ok_longer {f f1 f2 f3 f4 : Addr} {fd fd1 fd2 fd3 fd4 : FuncData} (F : Fun K "_law_longer_right" "_law_longer_right" s_longer f fd) (B : Blt mg)
    (Dsz : Df K mg "_law_sizes" s_sizes ["_law_numbers"] f1 fd1) (Gsz : FnOk P w K mg base CX0 1 f1 fd1 ["_law_numbers"] (sp_sizes K))
    (Dhd : Df K mg "_law_heard" s_heard ["_law_sizes_here"] f2 fd2) (Ghd : FnG P w K mg base 5 f2 fd2 ["_law_sizes_here"] (sp_heard K))
    (Dare : Df K mg "_law_are_sizes" s_are ["_law_value"] f3 fd3) (Gare : FnOk P w K mg base CX0 1 f3 fd3 ["_law_value"] (sp_are K))
    (Dback : Df K mg "_law_back" s_back ["_law_sizes_here"] f4 fd4) (Gback : FnOk P w K mg base CX0 1 f4 fd4 ["_law_sizes_here"] (sp_back K)) :
    FnG P w K mg base 6 f fd ["_law_pot_here", "_law_numbers"] sp_longer := by
  refine F.okG sc_longer (fun vs H Q E h => ?_) (fun cdv A outer s H vs Q E gd hr h => ?_)
  · obtain ⟨p, l, ns, rfl, _⟩ := h
    rfl
  · obtain ⟨p, l, ns, rfl, hl, ne, r, q⟩ := h
    have hu := hr.units
    have r1 : Room 1 _ := hr.mono (by decide)
    have r5 : Room 5 _ := hr.mono (by decide)
    refine ⟨_, pss_cons (ps_set (i := 2) sc_longer.nd rfl (Or.inl rfl) (pdf Dsz Gsz r1 (pa_cons (pv 1) pa_nil)))
      (pss_cons (ps_set (i := 3) sc_longer.nd rfl (Or.inl rfl) (pe_lst (pa_cons (pe_op op_cat (pe_lst (pa_cons (pe_op op_add (pe_ix ix_list (pv 2) pe_int (fun _ _ => rfl)) pe_int) pa_nil)) (pe_slice sl_list (pv 2) (po_some pe_int) po_none)) (pa_cons (pe_op op_cat (pv 2) (pe_lst (pa_cons pe_int pa_nil))) (pa_cons (pe_op op_cat (pv 2) (pe_lst (pa_cons (pe_ix ix_list (pv 2) (pe_un un_neg pe_int) (fun _ _ => rfl)) pa_nil))) (pa_cons (pe_ifExp (pt_cmpR op_gt (pe_callB call_len_seq (by rfl) B.len PySem.boot_len (pa_cons (pv 2) pa_nil)) pe_int (nomark _)) (pe_slice sl_list (pv 2) (po_some pe_int) po_none) (pe_lst (pa_cons pe_int pa_nil))) (pa_cons (pe_op op_cat (pe_slice sl_list (pv 2) po_none (po_some (pe_un un_neg pe_int))) (pe_lst (pa_cons (pe_op op_add (pe_ix ix_list (pv 2) (pe_un un_neg pe_int) (fun _ _ => rfl)) pe_int) pa_nil))) pa_nil)))))))
      (pss_cons (ps_for PassesOwn.never rfl (pi_list (pv 3)) (pg_name (i := 4) sc_longer.nd rfl (Or.inl rfl)) (pss_cons (ps_set (i := 5) sc_longer.nd rfl (Or.inl rfl) (pe_ifExp (pt_val (pdf Dare Gare r1 (pa_cons (pv 4) pa_nil))) (pdf Dback Gback r1 (pa_cons (pv 4) pa_nil)) pe_str))
        (pss_one (ps_if (pt_cmpR (OpR.or op_ne (op_neD hu)) (pe_callG (E := E0) Ghd gd r5 (by rfl) Dhd.g Dhd.F.kp Dhd.b .nil (pa_cons (pv 4) pa_nil)) (pv 5) (nomark _)) (pss_one (ps_ret pe_bl)) pss_nil))))
      (pss_one (ps_ret pe_bl)))), ?_⟩
    have r9 := r.len
    refine ⟨_, rfl, l, ns, rfl, SqL.mk hl, ne, r, fun m mm mx H2 S s2 hS0 hS => ?_⟩
    obtain ⟨ok, back, sm, z0⟩ := row_sizes r mm mx
    revert hS ok z0
    generalize sizesI ns m.toNat = zs
    intro hS ok z0
    have z9 := ok.len9 z0
    obtain ⟨n, zt, rfl⟩ : ∃ n zt, zs = n :: zt := by
      cases zs with
      | nil => exact absurd rfl ok.ne
      | cons z z' => exact ⟨z, z', rfl⟩
    obtain ⟨ys, y, ey⟩ := (snoc_cases (n :: zt)).resolve_left (by simp)
    have zb : ∀ z ∈ n :: zt, 0 < z ∧ z ≤ 9 := fun z hz => ⟨ok.pos z hz, ok.hi z hz⟩
    have eyV : (n :: zt).map V.int = ys.map V.int ++ [V.int y] := by rw [ey, List.map_append]; rfl
    have lz : (n :: zt).length = zt.length + 1 := List.length_cons ..
    have lenV : ((n :: zt).map V.int).length = zt.length + 1 := by rw [List.length_map, lz]
    -- [sizes[0] + 1] + sizes[1:]
    refine ⟨_, rfl, S, _, _, _, rfl, rfl, SqL.mk hS, atI_nat (xs := (n :: zt).map V.int) (j := 0) rfl, _, _, rfl, rfl, by show 1 ≤ sizeLine; decide, fun a1 ha1 => ?_⟩
    have s1 := s2.trans (same_new (o := .lst [.int (n + 1)]) ha1)
    have b1 : (upd H2 a1 (.lst [.int (n + 1)])) a1 = some (.lst [.int (n + 1)]) := upd_same
    have S1 : (upd H2 a1 (.lst [.int (n + 1)])) S = some (.lst ((n :: zt).map V.int)) := (same_new ha1) _ _ hS
    revert s1 b1 S1
    generalize upd H2 a1 (.lst [.int (n + 1)]) = H3
    intro s3 b1 S3
    refine ⟨_, rfl, _, rfl, S, _, rfl, SqL.mk S3, fun c1 hc1 => ?_⟩
    have ec : cutV ((n :: zt).map V.int) (some (1 : Int)) none = zt.map V.int := cut_hi ((n :: zt).map V.int) 1
    rw [ec]
    have s4 := s3.trans (same_new (o := .lst (zt.map V.int)) hc1)
    have b2 : (upd H3 c1 (.lst (zt.map V.int))) a1 = some (.lst [.int (n + 1)]) := (same_new hc1) _ _ b1
    have d2 : (upd H3 c1 (.lst (zt.map V.int))) c1 = some (.lst (zt.map V.int)) := upd_same
    have S4 : (upd H3 c1 (.lst (zt.map V.int))) S = some (.lst ((n :: zt).map V.int)) := (same_new hc1) _ _ S3
    revert s4 b2 d2 S4
    generalize upd H3 c1 (.lst (zt.map V.int)) = H4
    intro s4 b2 d2 S4
    refine ⟨a1, c1, _, _, rfl, rfl, b2, d2, by rw [List.length_singleton, List.length_map, sizeLine_eq]; omega, fun V1 hV1 => ?_⟩
    have s5 := s4.trans (same_new (o := .lst ([V.int (n + 1)] ++ zt.map V.int)) hV1)
    have v1 : (upd H4 V1 (.lst ([V.int (n + 1)] ++ zt.map V.int))) V1 = some (.lst (((n + 1) :: zt).map V.int)) := upd_same
    have S5 : (upd H4 V1 (.lst ([V.int (n + 1)] ++ zt.map V.int))) S = some (.lst ((n :: zt).map V.int)) := (same_new hV1) _ _ S4
    revert s5 v1 S5
    generalize upd H4 V1 (.lst ([V.int (n + 1)] ++ zt.map V.int)) = H5
    intro s5 v1 S5
    clear s3 b1 S3 s4 b2 d2 S4
    -- sizes + [1]
    refine ⟨_, rfl, by show 1 ≤ sizeLine; decide, fun a2 ha2 => ?_⟩
    refine ⟨S, a2, _, _, rfl, rfl, (same_new ha2) _ _ S5, upd_same, by rw [lenV, List.length_singleton, sizeLine_eq]; omega, fun V2 hV2 => ?_⟩
    have w6 := (same_new (o := .lst [.int 1]) ha2).trans (same_new (o := .lst ((n :: zt).map V.int ++ [V.int 1])) hV2)
    have v2 : (upd (upd H5 a2 (.lst [.int 1])) V2 (.lst ((n :: zt).map V.int ++ [V.int 1]))) V2 = some (.lst (((n :: zt) ++ [1]).map V.int)) := by rw [upd_same, List.map_append]; rfl
    revert w6 v2
    generalize upd (upd H5 a2 (.lst [.int 1])) V2 (.lst ((n :: zt).map V.int ++ [V.int 1])) = H6
    intro w6 v2
    have s6 := s5.trans w6
    have v1 := w6 _ _ v1
    have S6 := w6 _ _ S5
    clear s5 w6 S5
    -- sizes + [sizes[-1]]
    have la : atI ((n :: zt).map V.int) (-1) = some (V.int y) := by rw [ey]; exact at_last
    refine ⟨_, rfl, _, rfl, _, rfl, S, _, _, _, rfl, rfl, SqL.mk S6, la, by show 1 ≤ sizeLine; decide, fun a3 ha3 => ?_⟩
    refine ⟨S, a3, _, _, rfl, rfl, (same_new ha3) _ _ S6, upd_same, by rw [lenV, List.length_singleton, sizeLine_eq]; omega, fun V3 hV3 => ?_⟩
    have w7 := (same_new (o := .lst [.int y]) ha3).trans (same_new (o := .lst ((n :: zt).map V.int ++ [V.int y])) hV3)
    have v3 : (upd (upd H6 a3 (.lst [.int y])) V3 (.lst ((n :: zt).map V.int ++ [V.int y]))) V3 = some (.lst (((n :: zt) ++ [y]).map V.int)) := by rw [upd_same, List.map_append]; rfl
    revert w7 v3
    generalize upd (upd H6 a3 (.lst [.int y])) V3 (.lst ((n :: zt).map V.int ++ [V.int y])) = H7
    intro w7 v3
    have s7 := s6.trans w7
    have v1 := w7 _ _ v1
    have v2 := w7 _ _ v2
    have S7 := w7 _ _ S6
    clear s6 w7 S6
    -- sizes[1:] or [0]
    refine ⟨_, rfl, S, _, rfl, .inl (SqL.mk S7), _, _, rfl, rfl, _, rfl, ?_⟩
    rw [lenV]
    refine iteQ (fun x H8 => ∃ V4 us, x = V.ref V4 ∧ Same H7 H8 ∧ H8 V4 = some (.lst (us.map V.int)) ∧ Few us) (fun _ Q' q' => ?_) (fun _ Q' q' => ?_) ?_
    · refine ⟨_, rfl, _, rfl, S, _, rfl, SqL.mk S7, fun V4 hV4 => q' _ _ ⟨V4, zt, rfl, same_new hV4, ?_, ?_⟩⟩
      · rw [ec]
        exact upd_same
      · exact few_of (by omega) fun z hz => by have := zb z (by simp [hz]); omega
    · refine ⟨by show 1 ≤ sizeLine; decide, fun V4 hV4 => q' _ _ ⟨V4, [0], rfl, same_new hV4, upd_same, few_of (by simp) (by simp)⟩⟩
    rintro _ H8 ⟨V4, us, rfl, w8, v4, few4⟩
    have s8 := s7.trans w8
    have v1 := w8 _ _ v1
    have v2 := w8 _ _ v2
    have v3 := w8 _ _ v3
    have S8 := w8 _ _ S7
    clear s7 w8 S7
    -- sizes[:-1] + [sizes[-1] + 1]
    refine ⟨_, rfl, _, rfl, _, rfl, S, _, rfl, SqL.mk S8, fun c5 hc5 => ?_⟩
    have ec5 : cutV ((n :: zt).map V.int) none (some (-1)) = ys.map V.int := by rw [eyV]; exact cut_neg1 _ _
    rw [ec5]
    have w9 := same_new (o := .lst (ys.map V.int)) hc5
    have d9 : (upd H8 c5 (.lst (ys.map V.int))) c5 = some (.lst (ys.map V.int)) := upd_same
    have yl : ys.length ≤ 9 := by
      have := congrArg List.length ey
      rw [List.length_append, List.length_singleton] at this
      omega
    refine ⟨_, rfl, _, rfl, S, _, _, _, rfl, rfl, SqL.mk (w9 _ _ S8), la, _, _, rfl, rfl, by show 1 ≤ sizeLine; decide, fun a5 ha5 => ?_⟩
    have w10 := w9.trans (same_new (o := .lst [.int (y + 1)]) ha5)
    refine ⟨c5, a5, _, _, rfl, rfl, (same_new ha5) _ _ d9, upd_same, by rw [List.length_map, List.length_singleton, sizeLine_eq]; omega, fun V5 hV5 => ?_⟩
    have w11 := w10.trans (same_new (o := .lst (ys.map V.int ++ [V.int (y + 1)])) hV5)
    have v5 : (upd (upd (upd H8 c5 (.lst (ys.map V.int))) a5 (.lst [.int (y + 1)])) V5 (.lst (ys.map V.int ++ [V.int (y + 1)]))) V5 = some (.lst ((ys ++ [y + 1]).map V.int)) := by rw [upd_same, List.map_append]; rfl
    revert w11 v5
    generalize upd (upd (upd H8 c5 (.lst (ys.map V.int))) a5 (.lst [.int (y + 1)])) V5 (.lst (ys.map V.int ++ [V.int (y + 1)])) = H9
    intro w11 v5
    have s9 := s8.trans w11
    have v1 := w11 _ _ v1
    have v2 := w11 _ _ v2
    have v3 := w11 _ _ v3
    have v4 := w11 _ _ v4
    clear w9 w10 w11 d9 S8 s8
    refine ⟨by show 5 ≤ sizeLine; decide, fun LS hLS => ?_⟩
    have w12 := same_new (o := .lst [.ref V1, .ref V2, .ref V3, .ref V4, .ref V5]) hLS
    have vL : (upd H9 LS (.lst [.ref V1, .ref V2, .ref V3, .ref V4, .ref V5])) LS = some (.lst [.ref V1, .ref V2, .ref V3, .ref V4, .ref V5]) := upd_same
    have all : ∀ x ∈ [V.ref V1, .ref V2, .ref V3, .ref V4, .ref V5], ∃ l zs, x = V.ref l ∧ H9 l = some (.lst (zs.map V.int)) ∧ Few zs := fun x hx => by
      simp only [List.mem_cons, List.not_mem_nil, or_false] at hx
      have yb : 0 < y ∧ y ≤ 9 := zb y (by rw [ey]; simp)
      rcases hx with rfl | rfl | rfl | rfl | rfl
      · refine ⟨_, _, rfl, v1, few_of (by rw [List.length_cons]; omega) fun z hz => ?_⟩
        rcases List.mem_cons.mp hz with e | hz
        · have := zb n (by simp)
          omega
        · have := zb z (by simp [hz])
          omega
      · refine ⟨_, _, rfl, v2, few_of (by rw [List.length_append, List.length_singleton]; omega) fun z hz => ?_⟩
        rcases List.mem_append.mp hz with hz | hz
        · have := zb z hz
          omega
        · have := List.mem_singleton.mp hz
          omega
      · refine ⟨_, _, rfl, v3, few_of (by rw [List.length_append, List.length_singleton]; omega) fun z hz => ?_⟩
        rcases List.mem_append.mp hz with hz | hz
        · have := zb z hz
          omega
        · have := List.mem_singleton.mp hz
          omega
      · exact ⟨_, _, rfl, v4, few4⟩
      · refine ⟨_, _, rfl, v5, few_of (by rw [List.length_append, List.length_singleton]; omega) fun z hz => ?_⟩
        rcases List.mem_append.mp hz with hz | hz
        · have := zb z (by rw [ey]; simp [hz])
          omega
        · have := List.mem_singleton.mp hz
          omega
    revert w12 vL
    generalize upd H9 LS (.lst [.ref V1, .ref V2, .ref V3, .ref V4, .ref V5]) = H10
    intro w12 vL
    have s10 := s9.trans w12
    have all : ∀ x ∈ [V.ref V1, .ref V2, .ref V3, .ref V4, .ref V5], ∃ l zs, x = V.ref l ∧ H10 l = some (.lst (zs.map V.int)) ∧ Few zs := fun x hx => by
      obtain ⟨l, zs, e, h, f⟩ := all x hx
      exact ⟨l, zs, e, w12 _ _ h, f⟩
    clear v1 v2 v3 v4 v5 w12 s9
    refine ⟨_, rfl, LS, rfl, ⟨_, SqL.mk vL⟩, for_list (xs := [V.ref V1, .ref V2, .ref V3, .ref V4, .ref V5]) (fun k σ H5 => ∃ y4 y5, σ = [some (.ref p), some (.ref l), some (.ref S), some (.ref LS), y4, y5] ∧ Same H10 H5) ⟨none, none, rfl, Same.refl _⟩ (fun k σ H5 _ h => ?_) (fun k x σ H5 hx h => ?_) (fun σ H5 h => ?_)⟩
    · obtain ⟨y4, y5, rfl, wG⟩ := h
      exact SqL.mk (wG _ _ vL)
    · obtain ⟨y4, y5, rfl, wG⟩ := h
      obtain ⟨g, zs, rfl, hg, fz⟩ := all x (List.mem_of_getElem? hx)
      have zl := fz.len
      have hg5 := wG _ _ hg
      refine ⟨_, rfl, g, zs, rfl, SqL.mk hg5, by omega, fun H6 s6 => ⟨_, rfl, ?_⟩⟩
      have hg6 := s6 _ _ hg5
      have wG6 := wG.trans s6
      by_cases okz : Len zs
      · rw [(len_iff zs).mpr okz]
        obtain ⟨k0, hk0⟩ : ∃ k0, zs[0]? = some k0 := by
          cases zs with
          | nil => exact absurd rfl okz.ne
          | cons z z' => exact ⟨z, rfl⟩
        refine iteT ⟨_, rfl, g, zs, k0, rfl, SqL.mk hg6, okz, hk0, fun H7 L7 s7 _ h7 => ?_⟩
        refine ⟨_, rfl, g, zs, rfl, .inl (SqL.mk (s7 _ _ hg6)), fz, fun n2 ok2 hn2 H8 L8 s8 _ h8 => ?_, fun no => absurd okz no⟩
        have e2 : n2 = k0 := by rw [hk0] at hn2; exact (Option.some.inj hn2).symm
        rw [e2] at h8
        refine ⟨_, rfl, .inr ?_⟩
        refine ⟨dLst _, dLst _, dp_lst (SqL.mk h8), dp_lst (SqL.mk (s8 _ _ h7)), shaped_lst _, shaped_lst _, _, rfl, ?_⟩
        rw [show (!PyData.eqv (dLst (rowOf zs k0.toNat)) (dLst (rowOf zs k0.toNat))) = false by rw [eqv_lst]; simp]
        exact iteF ⟨_, _, rfl, (wG6.trans s7).trans s8⟩
      · rw [show LenB zs = false by rw [Bool.eq_false_iff]; exact fun e => okz ((len_iff zs).mp e)]
        refine iteF ⟨_, rfl, g, zs, rfl, .inl (SqL.mk hg6), fz, fun n2 ok2 => absurd ok2 okz, fun _ H8 s8 => ⟨_, rfl, .inl ⟨rfl, _, rfl, ?_⟩⟩⟩
        rw [show (!decide (V.str (Str.ofString "refused") = V.str (Str.ofString "refused"))) = false by simp]
        exact iteF ⟨_, _, rfl, wG6.trans s8⟩
    · obtain ⟨y4, y5, rfl, wG⟩ := h
      exact q _ (s10.trans wG)
end
end G0

set_option pp.oneline true
namespace G0
open PySem PySem.Spec PyProof.Rows L2
abbrev s_right : Stmt := top 33
abbrev s_law : Stmt := top 34
section
variable {P : Program} {w : World} {K : PySem.W.Frag} {mg : Str → Option Value} {base : Heap}
def sp_right : Sp := fun vs H Q _ => ∃ (p : Addr) (D : Hp), vs = [.ref p] ∧ Wd p D H ∧ ∀ H', Wd p D H' → Q (.bl true) H'
theorem sc_right : FnScope ["_law_pot_here", "_law_turn", "_law_numbers"] ["_law_pot_here"] (defScope s_right) := ⟨rfl, rfl, rfl, by decide +kernel, rfl, by decide +kernel, by decide +kernel⟩
theorem ok_right {f f1 f2 f3 f4 : Addr} {fd fd1 fd2 fd3 fd4 : FuncData} (F : Fun K "_law_right" "_law_right" s_right f fd) (B : Blt mg)
    (Dlrow : Df K mg "_law_row" s_lrow ["_law_pot_here", "_law_most"] f1 fd1) (Glrow : FnOk P w K mg base CX0 2 f1 fd1 ["_law_pot_here", "_law_most"] sp_lrow)
    (Drr : Df K mg "_law_row_right" s_row_right ["_law_pot_here", "_law_numbers"] f2 fd2) (Grr : FnG P w K mg base 7 f2 fd2 ["_law_pot_here", "_law_numbers"] sp_rr)
    (Dlr : Df K mg "_law_longer_right" s_longer ["_law_pot_here", "_law_numbers"] f3 fd3) (Glr : FnG P w K mg base 6 f3 fd3 ["_law_pot_here", "_law_numbers"] sp_longer)
    (Ddr : Df K mg "_law_drawn_right" s_drawn ["_law_pot_here"] f4 fd4) (Gdr : FnG P w K mg base 7 f4 fd4 ["_law_pot_here"] sp_drawn) :
    FnG P w K mg base 8 f fd ["_law_pot_here"] sp_right := by
  refine F.okG sc_right (fun vs H Q E h => ?_) (fun cdv A outer s H vs Q E gd hr h => ?_)
  · obtain ⟨p, D, rfl, _⟩ := h
    rfl
  · obtain ⟨p, D, rfl, wd, q⟩ := h
    have hu := hr.units
    have r2 : Room 2 _ := hr.mono (by decide)
    have r6 : Room 6 _ := hr.mono (by decide)
    have r7 : Room 7 _ := hr.mono (by decide)
    refine ⟨_, pss_cons (ps_for PassesOwn.never rfl (pi_range1 (by rfl) B.range (pa_cons pe_int pa_nil)) (pg_name (i := 1) sc_right.nd rfl (Or.inl rfl)) (pss_cons (ps_set (i := 2) sc_right.nd rfl (Or.inl rfl) (pdf Dlrow Glrow r2 (pa_cons (pv 0) (pa_cons pe_int pa_nil))))
        (pss_one (ps_if (PW.pt (pw_or (pt_not (pt_val (pe_callG (E := E0) Grr gd r7 (by rfl) Drr.g Drr.F.kp Drr.b .nil (pa_cons (pv 0) (pa_cons (pv 2) pa_nil))))) (pw_or (pt_not (pt_val (pe_callG (E := E0) Glr gd r6 (by rfl) Dlr.g Dlr.F.kp Dlr.b .nil (pa_cons (pv 0) (pa_cons (pv 2) pa_nil))))) (pw_or1 (pt_not (pt_val (pe_callG (E := E0) Gdr gd r7 (by rfl) Ddr.g Ddr.F.kp Ddr.b .nil (pa_cons (pv 0) pa_nil)))))))) (pss_one (ps_ret pe_bl)) pss_nil))))
      (pss_one (ps_ret pe_bl)), ?_⟩
    refine ⟨3, rfl, by decide, by decide, for_range (n := 3) (fun i σ H' => ∃ y1 y2, σ = [some (.ref p), y1, y2] ∧ Wd p D H') ⟨none, none, rfl, wd⟩ ?_ ?_⟩
    · rintro i σ H1 hi ⟨y1, y2, rfl, w1⟩
      refine ⟨_, rfl, p, D, rfl, w1, fun v D2 H2 s2 w2 hv => ?_⟩
      obtain ⟨L, ns, rfl, hL, ne, hf⟩ := hv
      have r := (row_iff ns).mpr hf
      refine ⟨_, rfl, _, rfl, p, L, D2, ns, rfl, w2, hL, ne, r, fun H3 w3 => ⟨true, rfl, iteF ?_⟩⟩
      refine ⟨_, rfl, _, rfl, p, L, ns, rfl, w3.s _ _ hL, ne, r, fun H4 s4 => ⟨true, rfl, iteF ?_⟩⟩
      have w4 := w3.pure s4
      refine ⟨_, rfl, p, D2, rfl, w4, fun H5 w5 => ⟨true, rfl, iteF ⟨_, _, rfl, w5.weak s2⟩⟩⟩
    · rintro σ H1 ⟨y1, y2, rfl, w1⟩
      exact q _ w1
/-! law -/
def sp_law (K : PySem.W.Frag) : Sp := fun vs H Q _ => ∃ (l : Addr) (ns : List Int), vs = [.ref l] ∧ SqL K H l (ns.map V.int) ∧ ns.length ≤ 63 ∧ ∀ H', Q (.bl true) H'
theorem sc_law : FnScope ["_law_script", "_law_k"] ["_law_script"] (defScope s_law) := ⟨rfl, rfl, rfl, by decide +kernel, rfl, by decide +kernel, by decide +kernel⟩
theorem ok_law {f f1 f2 : Addr} {fd fd1 fd2 : FuncData} (F : Fun K "law" "law" s_law f fd) (B : Blt mg) (D1 : Df K mg "_law_pot" s_pot ["_law_script", "_law_k"] f1 fd1) (D2 : Df K mg "_law_right" s_right ["_law_pot_here"] f2 fd2) (G2 : FnG P w K mg base 8 f2 fd2 ["_law_pot_here"] sp_right) : FnG P w K mg base 9 f fd ["_law_script"] (sp_law K) := by
  have G1 : FnOk P w K mg base CX0 1 f1 fd1 ["_law_script", "_law_k"] (sp_pot K) := ok_pot D1.F B
  refine F.okG sc_law (fun vs H Q E h => ?_) (fun cdv A outer s H vs Q E gd hr h => ?_)
  · obtain ⟨l, ns, rfl, _⟩ := h
    rfl
  · obtain ⟨l, ns, rfl, hs, hn, q⟩ := h
    have r1 : Room 1 _ := hr.mono (by decide)
    refine ⟨_, pss_one (ps_ret (pe_callB (cr_all rfl) (by rfl) B.all boot_all (pa_cons (pe_lc (own := [("_law_k", 1)]) (g := gName 1) (tt := tYes) rfl sc_law.nd
      (pi_range1 (by rfl) B.range (pa_cons (pe_callB (call_max2 rfl) (by rfl) B.max boot_max (pa_cons pe_int (pa_cons (pe_callB (call_min2 rfl) (by rfl) B.min boot_min (pa_cons pe_int (pa_cons (pe_callB call_len_seq (by rfl) B.len PySem.boot_len (pa_cons (pv 0) pa_nil)) pa_nil))) pa_nil))) pa_nil))
      (blkOk_by (N := ["_law_script", "_law_k"]) (sc := defScope s_law) (by decide +kernel)) (fun _ _ _ _ _ => pg_name (i := 1) sc_law.nd rfl (Or.inl rfl)) (fun _ _ _ _ _ => pts_nil)
      (fun _ _ _ _ _ => pe_callG (E := E0) G2 gd hr (by rfl) D2.g D2.F.kp D2.b .nil (pa_cons (pdf D1 G1 r1 (pa_cons (pv 0) (pa_cons (pv 1) pa_nil))) pa_nil))) pa_nil))), ?_⟩
    refine ⟨_, rfl, l, _, rfl, .inl hs, 3, _, rfl, 1, _, rfl, ?_⟩
    have nb : (0 : Int) ≤ (if (if (((ns.map V.int).length : Nat) : Int) < 3 then (((ns.map V.int).length : Nat) : Int) else 3) > 1 then (if (((ns.map V.int).length : Nat) : Int) < 3 then (((ns.map V.int).length : Nat) : Int) else 3) else 1) ∧
        (if (if (((ns.map V.int).length : Nat) : Int) < 3 then (((ns.map V.int).length : Nat) : Int) else 3) > 1 then (if (((ns.map V.int).length : Nat) : Int) < 3 then (((ns.map V.int).length : Nat) : Int) else 3) else 1) ≤ 3 := by
      split <;> split <;> omega
    revert nb
    generalize (if (if (((ns.map V.int).length : Nat) : Int) < 3 then (((ns.map V.int).length : Nat) : Int) else 3) > 1 then (if (((ns.map V.int).length : Nat) : Int) < 3 then (((ns.map V.int).length : Nat) : Int) else 3) else 1) = m
    rintro ⟨m0, m2⟩
    refine ⟨m, rfl, by omega, by omega, fun L hL => ?_⟩
    refine lc_range (n := m.toNat) (fun i H1 => Same H H1 ∧ H1 L = some (.lst ((List.replicate i true).map V.bl))) ⟨same_new hL, upd_same⟩ ?_ ?_
    · rintro i H1 hi ⟨s1, h1⟩
      refine ⟨rfl, yes_ite ?_⟩
      refine ⟨_, rfl, _, rfl, l, ns, i, (by rw [Int.zero_add]; rfl), s1.seq hs, hn, by omega, fun H2 p D s2 sD w2 => ?_⟩
      refine ⟨p, D, rfl, w2, fun H3 w3 => ?_⟩
      refine ⟨_, w3.s _ _ (sD _ _ h1), ?_, (s1.trans (sD.trans w3.s)).put hL, ?_⟩
      · rw [List.length_map, List.length_replicate]
        exact Nat.lt_of_lt_of_le (show i < 3 by omega) (by decide)
      · rw [upd_same, List.replicate_succ', List.map_append]
        rfl
    · rintro H1 ⟨s1, h1⟩
      refine ⟨L, List.replicate m.toNat true, rfl, SqL.mk h1, ?_⟩
      have e : (List.replicate m.toNat true).all id = true := by
        rw [List.all_eq_true]
        intro x hx
        rw [(List.mem_replicate.mp hx).2]
        rfl
      rw [e]
      exact q _
end
end G0

namespace G0
open PySem PySem.Spec PyProof.Rows L2
/-! ### what the top has written; the head -/
theorem all_mk {l : PySem.W.OpenLaw} {w : World} {K : PySem.W.Frag} {h : Heap} {mg : Str → Option Value} {fa f_isint f_iscount f_islist f_isrow f_iscounts f_first f_chk f_lens f_rowby f_isl f_numat f_pot f_draw f_lrow f_passed f_sizes f_back f_are f_heard f_rr f_drawn f_longer f_right f_law : Addr} (X : K.In h) (G : h.Ns mainGlobals mg) (hfa : mg "law" = some (.ref fa))
    {od_isint an_isint : Option Addr} {sl_isint : Array (Option Value)} {oc_isint kV_isint dc_isint pm_isint cd_isint ct_isint : Value}
    {od_iscount an_iscount : Option Addr} {sl_iscount : Array (Option Value)} {oc_iscount kV_iscount dc_iscount pm_iscount cd_iscount ct_iscount : Value}
    {od_islist an_islist : Option Addr} {sl_islist : Array (Option Value)} {oc_islist kV_islist dc_islist pm_islist cd_islist ct_islist : Value}
    {od_isrow an_isrow : Option Addr} {sl_isrow : Array (Option Value)} {oc_isrow kV_isrow dc_isrow pm_isrow cd_isrow ct_isrow : Value}
    {od_iscounts an_iscounts : Option Addr} {sl_iscounts : Array (Option Value)} {oc_iscounts kV_iscounts dc_iscounts pm_iscounts cd_iscounts ct_iscounts : Value}
    {od_first an_first : Option Addr} {sl_first : Array (Option Value)} {oc_first kV_first dc_first pm_first cd_first ct_first : Value}
    {od_chk an_chk : Option Addr} {sl_chk : Array (Option Value)} {oc_chk kV_chk dc_chk pm_chk cd_chk ct_chk : Value}
    {od_lens an_lens : Option Addr} {sl_lens : Array (Option Value)} {oc_lens kV_lens dc_lens pm_lens cd_lens ct_lens : Value}
    {od_rowby an_rowby : Option Addr} {sl_rowby : Array (Option Value)} {oc_rowby kV_rowby dc_rowby pm_rowby cd_rowby ct_rowby : Value}
    {od_isl an_isl : Option Addr} {sl_isl : Array (Option Value)} {oc_isl kV_isl dc_isl pm_isl cd_isl ct_isl : Value}
    {od_numat an_numat : Option Addr} {sl_numat : Array (Option Value)} {oc_numat kV_numat dc_numat pm_numat cd_numat ct_numat : Value}
    {od_pot an_pot : Option Addr} {sl_pot : Array (Option Value)} {oc_pot kV_pot dc_pot pm_pot cd_pot ct_pot : Value}
    {od_draw an_draw : Option Addr} {sl_draw : Array (Option Value)} {oc_draw kV_draw dc_draw pm_draw cd_draw ct_draw : Value}
    {od_lrow an_lrow : Option Addr} {sl_lrow : Array (Option Value)} {oc_lrow kV_lrow dc_lrow pm_lrow cd_lrow ct_lrow : Value}
    {od_passed an_passed : Option Addr} {sl_passed : Array (Option Value)} {oc_passed kV_passed dc_passed pm_passed cd_passed ct_passed : Value}
    {od_sizes an_sizes : Option Addr} {sl_sizes : Array (Option Value)} {oc_sizes kV_sizes dc_sizes pm_sizes cd_sizes ct_sizes : Value}
    {od_back an_back : Option Addr} {sl_back : Array (Option Value)} {oc_back kV_back dc_back pm_back cd_back ct_back : Value}
    {od_are an_are : Option Addr} {sl_are : Array (Option Value)} {oc_are kV_are dc_are pm_are cd_are ct_are : Value}
    {od_heard an_heard : Option Addr} {sl_heard : Array (Option Value)} {oc_heard kV_heard dc_heard pm_heard cd_heard ct_heard : Value}
    {od_rr an_rr : Option Addr} {sl_rr : Array (Option Value)} {oc_rr kV_rr dc_rr pm_rr cd_rr ct_rr : Value}
    {od_drawn an_drawn : Option Addr} {sl_drawn : Array (Option Value)} {oc_drawn kV_drawn dc_drawn pm_drawn cd_drawn ct_drawn : Value}
    {od_longer an_longer : Option Addr} {sl_longer : Array (Option Value)} {oc_longer kV_longer dc_longer pm_longer cd_longer ct_longer : Value}
    {od_right an_right : Option Addr} {sl_right : Array (Option Value)} {oc_right kV_right dc_right pm_right cd_right ct_right : Value}
    {od_law an_law : Option Addr} {sl_law : Array (Option Value)} {oc_law kV_law dc_law pm_law cd_law ct_law : Value}
    {t9 : Tok}
    {t24 : Tok}
    {C_L f_ilinit : Addr} {nm_L q_L : Str} {N_L : Addr} {bs_L bm_L : List Value} {sn_L : List Str} {sub_L : List Value} {ab_L : Bool} {col_L : Option Bool} {dd_L : Option Addr} {m0_L m1_L m2_L m3_L m5_L : Option Value}
    {od_ilinit an_ilinit : Option Addr} {sl_ilinit : Array (Option Value)} {oc_ilinit kV_ilinit dc_ilinit pm_ilinit cd_ilinit ct_ilinit : Value}
    (a_isint : PySem.W.nsIn K mainGlobals "is_integer" = some (some (.ref f_isint)))
    (l_isint : K.lookup f_isint = some ⟨oc_isint, od_isint, .func (PySem.W.fnOf "is_integer" "is_integer" (defArgs s_is_integer) (defBody s_is_integer) (defScope s_is_integer) .none kV_isint dc_isint pm_isint an_isint cd_isint ct_isint), sl_isint⟩) (c_isint : PySem.W.codeIn K cd_isint "is_integer" = true) (k_isint : PySem.W.keepIn K (.ref f_isint) = true)
    (a_iscount : PySem.W.nsIn K mainGlobals "is_count" = some (some (.ref f_iscount)))
    (l_iscount : K.lookup f_iscount = some ⟨oc_iscount, od_iscount, .func (PySem.W.fnOf "is_count" "is_count" (defArgs s_is_count) (defBody s_is_count) (defScope s_is_count) .none kV_iscount dc_iscount pm_iscount an_iscount cd_iscount ct_iscount), sl_iscount⟩) (c_iscount : PySem.W.codeIn K cd_iscount "is_count" = true) (k_iscount : PySem.W.keepIn K (.ref f_iscount) = true)
    (a_islist : PySem.W.nsIn K mainGlobals "is_list" = some (some (.ref f_islist)))
    (l_islist : K.lookup f_islist = some ⟨oc_islist, od_islist, .func (PySem.W.fnOf "is_list" "is_list" (defArgs s_is_list) (defBody s_is_list) (defScope s_is_list) .none kV_islist dc_islist pm_islist an_islist cd_islist ct_islist), sl_islist⟩) (c_islist : PySem.W.codeIn K cd_islist "is_list" = true) (k_islist : PySem.W.keepIn K (.ref f_islist) = true)
    (a_isrow : PySem.W.nsIn K mainGlobals "is_row" = some (some (.ref f_isrow)))
    (l_isrow : K.lookup f_isrow = some ⟨oc_isrow, od_isrow, .func (PySem.W.fnOf "is_row" "is_row" (defArgs s_is_row) (defBody s_is_row) (defScope s_is_row) .none kV_isrow dc_isrow pm_isrow an_isrow cd_isrow ct_isrow), sl_isrow⟩) (c_isrow : PySem.W.codeIn K cd_isrow "is_row" = true) (k_isrow : PySem.W.keepIn K (.ref f_isrow) = true)
    (a_iscounts : PySem.W.nsIn K mainGlobals "is_counts" = some (some (.ref f_iscounts)))
    (l_iscounts : K.lookup f_iscounts = some ⟨oc_iscounts, od_iscounts, .func (PySem.W.fnOf "is_counts" "is_counts" (defArgs s_is_counts) (defBody s_is_counts) (defScope s_is_counts) .none kV_iscounts dc_iscounts pm_iscounts an_iscounts cd_iscounts ct_iscounts), sl_iscounts⟩) (c_iscounts : PySem.W.codeIn K cd_iscounts "is_counts" = true) (k_iscounts : PySem.W.keepIn K (.ref f_iscounts) = true)
    (a_first : PySem.W.nsIn K mainGlobals "first_fault" = some (some (.ref f_first)))
    (l_first : K.lookup f_first = some ⟨oc_first, od_first, .func (PySem.W.fnOf "first_fault" "first_fault" (defArgs s_first_fault) (defBody s_first_fault) (defScope s_first_fault) .none kV_first dc_first pm_first an_first cd_first ct_first), sl_first⟩) (c_first : PySem.W.codeIn K cd_first "first_fault" = true) (k_first : PySem.W.keepIn K (.ref f_first) = true)
    (a_chk : PySem.W.nsIn K mainGlobals "check_row" = some (some (.ref f_chk)))
    (l_chk : K.lookup f_chk = some ⟨oc_chk, od_chk, .func (PySem.W.fnOf "check_row" "check_row" (defArgs s_check_row) (defBody s_check_row) (defScope s_check_row) .none kV_chk dc_chk pm_chk an_chk cd_chk ct_chk), sl_chk⟩) (c_chk : PySem.W.codeIn K cd_chk "check_row" = true) (k_chk : PySem.W.keepIn K (.ref f_chk) = true)
    (a_lens : PySem.W.nsIn K mainGlobals "lengths" = some (some (.ref f_lens)))
    (l_lens : K.lookup f_lens = some ⟨oc_lens, od_lens, .func (PySem.W.fnOf "lengths" "lengths" (defArgs s_lengths) (defBody s_lengths) (defScope s_lengths) .none kV_lens dc_lens pm_lens an_lens cd_lens ct_lens), sl_lens⟩) (c_lens : PySem.W.codeIn K cd_lens "lengths" = true) (k_lens : PySem.W.keepIn K (.ref f_lens) = true)
    (a_rowby : PySem.W.nsIn K mainGlobals "row_by" = some (some (.ref f_rowby)))
    (l_rowby : K.lookup f_rowby = some ⟨oc_rowby, od_rowby, .func (PySem.W.fnOf "row_by" "row_by" (defArgs s_row_by) (defBody s_row_by) (defScope s_row_by) .none kV_rowby dc_rowby pm_rowby an_rowby cd_rowby ct_rowby), sl_rowby⟩) (c_rowby : PySem.W.codeIn K cd_rowby "row_by" = true) (k_rowby : PySem.W.keepIn K (.ref f_rowby) = true)
    (a_isl : PySem.W.nsIn K mainGlobals "is_lengths" = some (some (.ref f_isl)))
    (l_isl : K.lookup f_isl = some ⟨oc_isl, od_isl, .func (PySem.W.fnOf "is_lengths" "is_lengths" (defArgs s_is_lengths) (defBody s_is_lengths) (defScope s_is_lengths) .none kV_isl dc_isl pm_isl an_isl cd_isl ct_isl), sl_isl⟩) (c_isl : PySem.W.codeIn K cd_isl "is_lengths" = true) (k_isl : PySem.W.keepIn K (.ref f_isl) = true)
    (a_numat : PySem.W.nsIn K mainGlobals "number_at" = some (some (.ref f_numat)))
    (l_numat : K.lookup f_numat = some ⟨oc_numat, od_numat, .func (PySem.W.fnOf "number_at" "number_at" (defArgs s_number_at) (defBody s_number_at) (defScope s_number_at) .none kV_numat dc_numat pm_numat an_numat cd_numat ct_numat), sl_numat⟩) (c_numat : PySem.W.codeIn K cd_numat "number_at" = true) (k_numat : PySem.W.keepIn K (.ref f_numat) = true)
    (a_pot : PySem.W.nsIn K mainGlobals "_law_pot" = some (some (.ref f_pot)))
    (l_pot : K.lookup f_pot = some ⟨oc_pot, od_pot, .func (PySem.W.fnOf "_law_pot" "_law_pot" (defArgs s_pot) (defBody s_pot) (defScope s_pot) .none kV_pot dc_pot pm_pot an_pot cd_pot ct_pot), sl_pot⟩) (c_pot : PySem.W.codeIn K cd_pot "_law_pot" = true) (k_pot : PySem.W.keepIn K (.ref f_pot) = true)
    (a_draw : PySem.W.nsIn K mainGlobals "_law_draw" = some (some (.ref f_draw)))
    (l_draw : K.lookup f_draw = some ⟨oc_draw, od_draw, .func (PySem.W.fnOf "_law_draw" "_law_draw" (defArgs s_draw) (defBody s_draw) (defScope s_draw) .none kV_draw dc_draw pm_draw an_draw cd_draw ct_draw), sl_draw⟩) (c_draw : PySem.W.codeIn K cd_draw "_law_draw" = true) (k_draw : PySem.W.keepIn K (.ref f_draw) = true)
    (a_lrow : PySem.W.nsIn K mainGlobals "_law_row" = some (some (.ref f_lrow)))
    (l_lrow : K.lookup f_lrow = some ⟨oc_lrow, od_lrow, .func (PySem.W.fnOf "_law_row" "_law_row" (defArgs s_lrow) (defBody s_lrow) (defScope s_lrow) .none kV_lrow dc_lrow pm_lrow an_lrow cd_lrow ct_lrow), sl_lrow⟩) (c_lrow : PySem.W.codeIn K cd_lrow "_law_row" = true) (k_lrow : PySem.W.keepIn K (.ref f_lrow) = true)
    (a_passed : PySem.W.nsIn K mainGlobals "_law_passed" = some (some (.ref f_passed)))
    (l_passed : K.lookup f_passed = some ⟨oc_passed, od_passed, .func (PySem.W.fnOf "_law_passed" "_law_passed" (defArgs s_passed) (defBody s_passed) (defScope s_passed) .none kV_passed dc_passed pm_passed an_passed cd_passed ct_passed), sl_passed⟩) (c_passed : PySem.W.codeIn K cd_passed "_law_passed" = true) (k_passed : PySem.W.keepIn K (.ref f_passed) = true)
    (a_sizes : PySem.W.nsIn K mainGlobals "_law_sizes" = some (some (.ref f_sizes)))
    (l_sizes : K.lookup f_sizes = some ⟨oc_sizes, od_sizes, .func (PySem.W.fnOf "_law_sizes" "_law_sizes" (defArgs s_sizes) (defBody s_sizes) (defScope s_sizes) .none kV_sizes dc_sizes pm_sizes an_sizes cd_sizes ct_sizes), sl_sizes⟩) (c_sizes : PySem.W.codeIn K cd_sizes "_law_sizes" = true) (k_sizes : PySem.W.keepIn K (.ref f_sizes) = true)
    (a_back : PySem.W.nsIn K mainGlobals "_law_back" = some (some (.ref f_back)))
    (l_back : K.lookup f_back = some ⟨oc_back, od_back, .func (PySem.W.fnOf "_law_back" "_law_back" (defArgs s_back) (defBody s_back) (defScope s_back) .none kV_back dc_back pm_back an_back cd_back ct_back), sl_back⟩) (c_back : PySem.W.codeIn K cd_back "_law_back" = true) (k_back : PySem.W.keepIn K (.ref f_back) = true)
    (a_are : PySem.W.nsIn K mainGlobals "_law_are_sizes" = some (some (.ref f_are)))
    (l_are : K.lookup f_are = some ⟨oc_are, od_are, .func (PySem.W.fnOf "_law_are_sizes" "_law_are_sizes" (defArgs s_are) (defBody s_are) (defScope s_are) .none kV_are dc_are pm_are an_are cd_are ct_are), sl_are⟩) (c_are : PySem.W.codeIn K cd_are "_law_are_sizes" = true) (k_are : PySem.W.keepIn K (.ref f_are) = true)
    (a_heard : PySem.W.nsIn K mainGlobals "_law_heard" = some (some (.ref f_heard)))
    (l_heard : K.lookup f_heard = some ⟨oc_heard, od_heard, .func (PySem.W.fnOf "_law_heard" "_law_heard" (defArgs s_heard) (defBody s_heard) (defScope s_heard) .none kV_heard dc_heard pm_heard an_heard cd_heard ct_heard), sl_heard⟩) (c_heard : PySem.W.codeIn K cd_heard "_law_heard" = true) (k_heard : PySem.W.keepIn K (.ref f_heard) = true)
    (a_rr : PySem.W.nsIn K mainGlobals "_law_row_right" = some (some (.ref f_rr)))
    (l_rr : K.lookup f_rr = some ⟨oc_rr, od_rr, .func (PySem.W.fnOf "_law_row_right" "_law_row_right" (defArgs s_row_right) (defBody s_row_right) (defScope s_row_right) .none kV_rr dc_rr pm_rr an_rr cd_rr ct_rr), sl_rr⟩) (c_rr : PySem.W.codeIn K cd_rr "_law_row_right" = true) (k_rr : PySem.W.keepIn K (.ref f_rr) = true)
    (a_drawn : PySem.W.nsIn K mainGlobals "_law_drawn_right" = some (some (.ref f_drawn)))
    (l_drawn : K.lookup f_drawn = some ⟨oc_drawn, od_drawn, .func (PySem.W.fnOf "_law_drawn_right" "_law_drawn_right" (defArgs s_drawn) (defBody s_drawn) (defScope s_drawn) .none kV_drawn dc_drawn pm_drawn an_drawn cd_drawn ct_drawn), sl_drawn⟩) (c_drawn : PySem.W.codeIn K cd_drawn "_law_drawn_right" = true) (k_drawn : PySem.W.keepIn K (.ref f_drawn) = true)
    (a_longer : PySem.W.nsIn K mainGlobals "_law_longer_right" = some (some (.ref f_longer)))
    (l_longer : K.lookup f_longer = some ⟨oc_longer, od_longer, .func (PySem.W.fnOf "_law_longer_right" "_law_longer_right" (defArgs s_longer) (defBody s_longer) (defScope s_longer) .none kV_longer dc_longer pm_longer an_longer cd_longer ct_longer), sl_longer⟩) (c_longer : PySem.W.codeIn K cd_longer "_law_longer_right" = true) (k_longer : PySem.W.keepIn K (.ref f_longer) = true)
    (a_right : PySem.W.nsIn K mainGlobals "_law_right" = some (some (.ref f_right)))
    (l_right : K.lookup f_right = some ⟨oc_right, od_right, .func (PySem.W.fnOf "_law_right" "_law_right" (defArgs s_right) (defBody s_right) (defScope s_right) .none kV_right dc_right pm_right an_right cd_right ct_right), sl_right⟩) (c_right : PySem.W.codeIn K cd_right "_law_right" = true) (k_right : PySem.W.keepIn K (.ref f_right) = true)
    (a_law : PySem.W.nsIn K mainGlobals "law" = some (some (.ref f_law)))
    (l_law : K.lookup f_law = some ⟨oc_law, od_law, .func (PySem.W.fnOf "law" "law" (defArgs s_law) (defBody s_law) (defScope s_law) .none kV_law dc_law pm_law an_law cd_law ct_law), sl_law⟩) (c_law : PySem.W.codeIn K cd_law "law" = true) (k_law : PySem.W.keepIn K (.ref f_law) = true)
    (v_places : PySem.W.nsIn K mainGlobals "MOST_PLACES" = some (some (.int 9 t9)))
    (v_sum : PySem.W.nsIn K mainGlobals "MOST_SUM" = some (some (.int 24 t24)))
    (z_isinstance : PySem.W.nsIn K mainGlobals "isinstance" = some none)
    (z_int : PySem.W.nsIn K mainGlobals "int" = some none)
    (z_bool : PySem.W.nsIn K mainGlobals "bool" = some none)
    (z_list : PySem.W.nsIn K mainGlobals "list" = some none)
    (z_tuple : PySem.W.nsIn K mainGlobals "tuple" = some none)
    (z_len : PySem.W.nsIn K mainGlobals "len" = some none)
    (z_all : PySem.W.nsIn K mainGlobals "all" = some none)
    (z_any : PySem.W.nsIn K mainGlobals "any" = some none)
    (z_abs : PySem.W.nsIn K mainGlobals "abs" = some none)
    (z_max : PySem.W.nsIn K mainGlobals "max" = some none)
    (z_min : PySem.W.nsIn K mainGlobals "min" = some none)
    (z_divmod : PySem.W.nsIn K mainGlobals "divmod" = some none)
    (z_range : PySem.W.nsIn K mainGlobals "range" = some none)
    (z_repr : PySem.W.nsIn K mainGlobals "repr" = some none)
    (z_enumerate : PySem.W.nsIn K mainGlobals "enumerate" = some none)
    (z_sum : PySem.W.nsIn K mainGlobals "sum" = some none)
    (z_sorted : PySem.W.nsIn K mainGlobals "sorted" = some none)
    (z_str : PySem.W.nsIn K mainGlobals "str" = some none)
    (z_dict : PySem.W.nsIn K mainGlobals "dict" = some none)
    (z_zip : PySem.W.nsIn K mainGlobals "zip" = some none)
    (z_set : PySem.W.nsIn K mainGlobals "set" = some none)
    (a_L : PySem.W.nsIn K mainGlobals "InvalidLengths" = some (some (.ref C_L)))
    (x_L : K.lookup C_L = some (excClassObj nm_L q_L C_L N_L bs_L bm_L true sn_L sub_L ab_L col_L dd_L m0_L m1_L m2_L m3_L m5_L "ValueError.__new__"))
    (rv_L : PySem.HandSPX.refsVE bm_L = true)
    (sa_L : PySem.W.findIn K (.ref C_L) "__setattr__" = some (some (.builtin "object.__setattr__")))
    (ex_L : PySem.W.subIn K (.ref C_L) (.type "BaseException") = some true)
    (ty_L : PySem.W.typeIn K (.ref C_L) = some (.type "type"))
    (kc_L : PySem.W.keepIn K (.ref C_L) = true)
    (ga_L : PySem.W.findIn K (.ref C_L) "__getattribute__" = some (some (.builtin "BaseException.__getattribute__")))
    (gg_L : PySem.W.findIn K (.ref C_L) "__getattr__" = some none)
    (hd_L : PySem.W.hasDictIn K C_L = true)
    (nv_L : PySem.W.findIn K (.ref C_L) "value" = some none)
    (te_L : PySem.W.exmOne K (.ref C_L) (.ref C_L) = some true)
    (a_ilinit : PySem.W.findIn K (.ref C_L) "__init__" = some (some (.ref f_ilinit)))
    (t_ilinit : PySem.W.typeIn K (.ref f_ilinit) = some (.type "function"))
    (l_ilinit : K.lookup f_ilinit = some ⟨oc_ilinit, od_ilinit, .func (PySem.W.fnOf "__init__" "InvalidLengths.__init__" (defArgs s_IL_init) (defBody s_IL_init) (defScope s_IL_init) .none kV_ilinit dc_ilinit pm_ilinit an_ilinit cd_ilinit ct_ilinit), sl_ilinit⟩)
    (c_ilinit : PySem.W.codeIn K cd_ilinit "InvalidLengths.__init__" = true)
    (k_ilinit : PySem.W.keepIn K (.ref f_ilinit) = true) :
    ∃ fd : FuncData, (∀ (s : Shared) (v : Value), BindsTo s fd ⟨[v], []⟩ [("_law_script", v)]) ∧ ∀ base : Heap, K.In base → base.Ns mainGlobals mg → FnG l.prog w K mg base 9 fa fd ["_law_script"] (sp_law K) := by
  have e := hfa.symm.trans (PySem.W.mg_of X G a_law)
  cases e
  have F_isint := fun_mk (st := s_is_integer) l_isint c_isint k_isint
  have b_isint := F_isint.binds (ps := ["value"]) fun _ _ _ _ _ _ us hl => match us, hl with | [_], _ => rfl
  have D_isint : Df K mg "is_integer" s_is_integer ["value"] f_isint _ := ⟨F_isint, PySem.W.mg_of X G a_isint, b_isint⟩
  have F_iscount := fun_mk (st := s_is_count) l_iscount c_iscount k_iscount
  have b_iscount := F_iscount.binds (ps := ["value"]) fun _ _ _ _ _ _ us hl => match us, hl with | [_], _ => rfl
  have D_iscount : Df K mg "is_count" s_is_count ["value"] f_iscount _ := ⟨F_iscount, PySem.W.mg_of X G a_iscount, b_iscount⟩
  have F_islist := fun_mk (st := s_is_list) l_islist c_islist k_islist
  have b_islist := F_islist.binds (ps := ["value"]) fun _ _ _ _ _ _ us hl => match us, hl with | [_], _ => rfl
  have D_islist : Df K mg "is_list" s_is_list ["value"] f_islist _ := ⟨F_islist, PySem.W.mg_of X G a_islist, b_islist⟩
  have F_isrow := fun_mk (st := s_is_row) l_isrow c_isrow k_isrow
  have b_isrow := F_isrow.binds (ps := ["value"]) fun _ _ _ _ _ _ us hl => match us, hl with | [_], _ => rfl
  have D_isrow : Df K mg "is_row" s_is_row ["value"] f_isrow _ := ⟨F_isrow, PySem.W.mg_of X G a_isrow, b_isrow⟩
  have F_iscounts := fun_mk (st := s_is_counts) l_iscounts c_iscounts k_iscounts
  have b_iscounts := F_iscounts.binds (ps := ["value"]) fun _ _ _ _ _ _ us hl => match us, hl with | [_], _ => rfl
  have D_iscounts : Df K mg "is_counts" s_is_counts ["value"] f_iscounts _ := ⟨F_iscounts, PySem.W.mg_of X G a_iscounts, b_iscounts⟩
  have F_first := fun_mk (st := s_first_fault) l_first c_first k_first
  have b_first := F_first.binds (ps := ["counts"]) fun _ _ _ _ _ _ us hl => match us, hl with | [_], _ => rfl
  have D_first : Df K mg "first_fault" s_first_fault ["counts"] f_first _ := ⟨F_first, PySem.W.mg_of X G a_first, b_first⟩
  have F_chk := fun_mk (st := s_check_row) l_chk c_chk k_chk
  have b_chk := F_chk.binds (ps := ["row"]) fun _ _ _ _ _ _ us hl => match us, hl with | [_], _ => rfl
  have D_chk : Df K mg "check_row" s_check_row ["row"] f_chk _ := ⟨F_chk, PySem.W.mg_of X G a_chk, b_chk⟩
  have F_lens := fun_mk (st := s_lengths) l_lens c_lens k_lens
  have b_lens := F_lens.binds (ps := ["row"]) fun _ _ _ _ _ _ us hl => match us, hl with | [_], _ => rfl
  have D_lens : Df K mg "lengths" s_lengths ["row"] f_lens _ := ⟨F_lens, PySem.W.mg_of X G a_lens, b_lens⟩
  have F_rowby := fun_mk (st := s_row_by) l_rowby c_rowby k_rowby
  have b_rowby := F_rowby.binds (ps := ["lengths"]) fun _ _ _ _ _ _ us hl => match us, hl with | [_], _ => rfl
  have D_rowby : Df K mg "row_by" s_row_by ["lengths"] f_rowby _ := ⟨F_rowby, PySem.W.mg_of X G a_rowby, b_rowby⟩
  have F_isl := fun_mk (st := s_is_lengths) l_isl c_isl k_isl
  have b_isl := F_isl.binds (ps := ["value"]) fun _ _ _ _ _ _ us hl => match us, hl with | [_], _ => rfl
  have D_isl : Df K mg "is_lengths" s_is_lengths ["value"] f_isl _ := ⟨F_isl, PySem.W.mg_of X G a_isl, b_isl⟩
  have F_numat := fun_mk (st := s_number_at) l_numat c_numat k_numat
  have b_numat := F_numat.binds (ps := ["place", "steps"]) fun _ _ _ _ _ _ us hl => match us, hl with | [_, _], _ => rfl
  have D_numat : Df K mg "number_at" s_number_at ["place", "steps"] f_numat _ := ⟨F_numat, PySem.W.mg_of X G a_numat, b_numat⟩
  have F_pot := fun_mk (st := s_pot) l_pot c_pot k_pot
  have b_pot := F_pot.binds (ps := ["_law_script", "_law_k"]) fun _ _ _ _ _ _ us hl => match us, hl with | [_, _], _ => rfl
  have D_pot : Df K mg "_law_pot" s_pot ["_law_script", "_law_k"] f_pot _ := ⟨F_pot, PySem.W.mg_of X G a_pot, b_pot⟩
  have F_draw := fun_mk (st := s_draw) l_draw c_draw k_draw
  have b_draw := F_draw.binds (ps := ["_law_pot_here", "_law_size"]) fun _ _ _ _ _ _ us hl => match us, hl with | [_, _], _ => rfl
  have D_draw : Df K mg "_law_draw" s_draw ["_law_pot_here", "_law_size"] f_draw _ := ⟨F_draw, PySem.W.mg_of X G a_draw, b_draw⟩
  have F_lrow := fun_mk (st := s_lrow) l_lrow c_lrow k_lrow
  have b_lrow := F_lrow.binds (ps := ["_law_pot_here", "_law_most"]) fun _ _ _ _ _ _ us hl => match us, hl with | [_, _], _ => rfl
  have D_lrow : Df K mg "_law_row" s_lrow ["_law_pot_here", "_law_most"] f_lrow _ := ⟨F_lrow, PySem.W.mg_of X G a_lrow, b_lrow⟩
  have F_passed := fun_mk (st := s_passed) l_passed c_passed k_passed
  have b_passed := F_passed.binds (ps := ["_law_pot_here", "_law_numbers"]) fun _ _ _ _ _ _ us hl => match us, hl with | [_, _], _ => rfl
  have D_passed : Df K mg "_law_passed" s_passed ["_law_pot_here", "_law_numbers"] f_passed _ := ⟨F_passed, PySem.W.mg_of X G a_passed, b_passed⟩
  have F_sizes := fun_mk (st := s_sizes) l_sizes c_sizes k_sizes
  have b_sizes := F_sizes.binds (ps := ["_law_numbers"]) fun _ _ _ _ _ _ us hl => match us, hl with | [_], _ => rfl
  have D_sizes : Df K mg "_law_sizes" s_sizes ["_law_numbers"] f_sizes _ := ⟨F_sizes, PySem.W.mg_of X G a_sizes, b_sizes⟩
  have F_back := fun_mk (st := s_back) l_back c_back k_back
  have b_back := F_back.binds (ps := ["_law_sizes_here"]) fun _ _ _ _ _ _ us hl => match us, hl with | [_], _ => rfl
  have D_back : Df K mg "_law_back" s_back ["_law_sizes_here"] f_back _ := ⟨F_back, PySem.W.mg_of X G a_back, b_back⟩
  have F_are := fun_mk (st := s_are) l_are c_are k_are
  have b_are := F_are.binds (ps := ["_law_value"]) fun _ _ _ _ _ _ us hl => match us, hl with | [_], _ => rfl
  have D_are : Df K mg "_law_are_sizes" s_are ["_law_value"] f_are _ := ⟨F_are, PySem.W.mg_of X G a_are, b_are⟩
  have F_heard := fun_mk (st := s_heard) l_heard c_heard k_heard
  have b_heard := F_heard.binds (ps := ["_law_sizes_here"]) fun _ _ _ _ _ _ us hl => match us, hl with | [_], _ => rfl
  have D_heard : Df K mg "_law_heard" s_heard ["_law_sizes_here"] f_heard _ := ⟨F_heard, PySem.W.mg_of X G a_heard, b_heard⟩
  have F_rr := fun_mk (st := s_row_right) l_rr c_rr k_rr
  have b_rr := F_rr.binds (ps := ["_law_pot_here", "_law_numbers"]) fun _ _ _ _ _ _ us hl => match us, hl with | [_, _], _ => rfl
  have D_rr : Df K mg "_law_row_right" s_row_right ["_law_pot_here", "_law_numbers"] f_rr _ := ⟨F_rr, PySem.W.mg_of X G a_rr, b_rr⟩
  have F_drawn := fun_mk (st := s_drawn) l_drawn c_drawn k_drawn
  have b_drawn := F_drawn.binds (ps := ["_law_pot_here"]) fun _ _ _ _ _ _ us hl => match us, hl with | [_], _ => rfl
  have D_drawn : Df K mg "_law_drawn_right" s_drawn ["_law_pot_here"] f_drawn _ := ⟨F_drawn, PySem.W.mg_of X G a_drawn, b_drawn⟩
  have F_longer := fun_mk (st := s_longer) l_longer c_longer k_longer
  have b_longer := F_longer.binds (ps := ["_law_pot_here", "_law_numbers"]) fun _ _ _ _ _ _ us hl => match us, hl with | [_, _], _ => rfl
  have D_longer : Df K mg "_law_longer_right" s_longer ["_law_pot_here", "_law_numbers"] f_longer _ := ⟨F_longer, PySem.W.mg_of X G a_longer, b_longer⟩
  have F_right := fun_mk (st := s_right) l_right c_right k_right
  have b_right := F_right.binds (ps := ["_law_pot_here"]) fun _ _ _ _ _ _ us hl => match us, hl with | [_], _ => rfl
  have D_right : Df K mg "_law_right" s_right ["_law_pot_here"] f_right _ := ⟨F_right, PySem.W.mg_of X G a_right, b_right⟩
  have F_law := fun_mk (st := s_law) l_law c_law k_law
  have B : Blt mg := ⟨PySem.W.mg_none_of X G z_isinstance, PySem.W.mg_none_of X G z_int, PySem.W.mg_none_of X G z_bool, PySem.W.mg_none_of X G z_list, PySem.W.mg_none_of X G z_tuple, PySem.W.mg_none_of X G z_len, PySem.W.mg_none_of X G z_all, PySem.W.mg_none_of X G z_any, PySem.W.mg_none_of X G z_abs, PySem.W.mg_none_of X G z_max, PySem.W.mg_none_of X G z_min, PySem.W.mg_none_of X G z_divmod, PySem.W.mg_none_of X G z_range, PySem.W.mg_none_of X G z_repr, PySem.W.mg_none_of X G z_enumerate, PySem.W.mg_none_of X G z_sum, PySem.W.mg_none_of X G z_sorted, PySem.W.mg_none_of X G z_str, PySem.W.mg_none_of X G z_dict⟩
  have m9 := PySem.W.mg_of X G v_places
  have m24 := PySem.W.mg_of X G v_sum
  have nZ := PySem.W.mg_none_of X G z_zip
  have nSet := PySem.W.mg_none_of X G z_set
  have F_ilinit := fun_mk (st := s_IL_init) l_ilinit c_ilinit k_ilinit
  have b_ilinit : Binds K _ ["self", "value"] [] := F_ilinit.binds (ps := ["self", "value"]) fun _ _ _ _ _ _ us hl => match us, hl with | [_, _], _ => rfl
  have oL : OexC K C_L := ⟨⟨nm_L, q_L, N_L, bs_L, bm_L, sn_L, sub_L, ab_L, col_L, dd_L, m0_L, m1_L, m2_L, m3_L, m5_L, x_L, rv_L⟩, sa_L, ex_L, ty_L, kc_L⟩
  have TL : ErrTxt K mg "InvalidLengths" C_L f_ilinit := ⟨oL, a_ilinit, t_ilinit, PySem.W.mg_of X G a_L, ⟨ga_L, gg_L, ex_L, hd_L⟩, nv_L, te_L⟩
  refine ⟨PySem.W.fnOf "law" "law" (defArgs s_law) (defBody s_law) (defScope s_law) .none kV_law dc_law pm_law an_law cd_law ct_law, fun s v => .of_eq rfl, fun base _ _ => ?_⟩
  · have GD : FnOk l.prog w K mg base CX0 1 f_draw _ ["_law_pot_here", "_law_size"] (sp_draw) := ok_draw F_draw B
    have GI : FnOk l.prog w K mg base CX0 1 f_isint _ ["value"] (sp_intA K) := ok_intA F_isint B
    have GL : FnOk l.prog w K mg base CX0 1 f_islist _ ["value"] (sp_listA K) := ok_listA F_islist B
    have GC : FnOk l.prog w K mg base CX0 2 f_iscount _ ["value"] (sp_cntA K) := ok_cntA F_iscount D_isint GI
    have GCs : FnOk l.prog w K mg base CX0 3 f_iscounts _ ["value"] (sp_countsA K) := ok_countsA F_iscounts B D_islist GL D_iscount GC
    have GF : FnOk l.prog w K mg base CX0 1 f_first _ ["counts"] (sp_first K) := ok_first F_first B m9 m24
    have GR : FnOk l.prog w K mg base CX0 4 f_isrow _ ["value"] (sp_rowA K) := ok_rowA F_isrow D_iscounts GCs D_first GF
    have GCh : FnOk l.prog w K mg base CX0 5 f_chk _ ["row"] (sp_chk K) := ok_chk F_chk D_isrow GR
    have GLe : FnOk l.prog w K mg base CX0 6 f_lens _ ["row"] (sp_lens K) := ok_lens F_lens B D_chk GCh
    have GNu : FnOk l.prog w K mg base CX0 1 f_numat _ ["place", "steps"] (sp_numat K) := ok_numat F_numat B
    have GIs : FnOk l.prog w K mg base CX0 3 f_isl _ ["value"] (sp_isl K) := ok_isl F_isl B nZ m9 m24 D_islist GL D_iscount GC
    have GIn : FnOk l.prog w K mg base CX0 1 f_ilinit _ ["self", "value"] (sp_err K C_L) := ok_ILinit F_ilinit
    have GRbX : FnOk l.prog w K mg base (L2.CX l.prog w) 4 f_rowby _ ["lengths"] (sp_rowby K C_L) := ok_rowby F_rowby B TL GIn b_ilinit D_isl GIs D_numat GNu
    have GRb : FnOk l.prog w K mg base CX0 4 f_rowby _ ["lengths"] (sp_rowC K C_L) := fn_calm GRbX
    have GRow : FnOk l.prog w K mg base CX0 2 f_lrow _ ["_law_pot_here", "_law_most"] (sp_lrow) := ok_lrow F_lrow B D_draw GD
    have GPass : FnOk l.prog w K mg base CX0 2 f_passed _ ["_law_pot_here", "_law_numbers"] (sp_passed K) := ok_passed F_passed B D_draw GD
    have GSz : FnOk l.prog w K mg base CX0 1 f_sizes _ ["_law_numbers"] (sp_sizes K) := ok_sizes F_sizes B
    have GBk : FnOk l.prog w K mg base CX0 1 f_back _ ["_law_sizes_here"] (sp_back K) := ok_back F_back B
    have GAr : FnOk l.prog w K mg base CX0 1 f_are _ ["_law_value"] (sp_are K) := ok_are F_are B
    have GHd : FnG l.prog w K mg base 5 f_heard _ ["_law_sizes_here"] (sp_heard K) := ok_heard F_heard B TL D_rowby GRbX
    have K_lens : KB (PySem.W.fnOf "lengths" "lengths" (defArgs s_lengths) (defBody s_lengths) (defScope s_lengths) .none kV_lens dc_lens pm_lens an_lens cd_lens ct_lens) ["row"] ["row"] 0 := kb_of F_lens (fun _ _ _ _ _ _ us ws h1 h2 => match us, ws, h1, h2 with | [], [_], _, _ => rfl)
    have K_rowby : KB (PySem.W.fnOf "row_by" "row_by" (defArgs s_row_by) (defBody s_row_by) (defScope s_row_by) .none kV_rowby dc_rowby pm_rowby an_rowby cd_rowby ct_rowby) ["lengths"] ["lengths"] 0 := kb_of F_rowby (fun _ _ _ _ _ _ us ws h1 h2 => match us, ws, h1, h2 with | [], [_], _, _ => rfl)
    have GRR : FnG l.prog w K mg base 7 f_rr _ ["_law_pot_here", "_law_numbers"] (sp_rr) := ok_rr F_rr B D_passed GPass D_sizes GSz D_lens GLe K_lens D_are GAr D_rowby GRb K_rowby D_back GBk
    have GDr : FnG l.prog w K mg base 7 f_drawn _ ["_law_pot_here"] (sp_drawn) := ok_drawn F_drawn B nSet D_draw GD D_passed GPass D_heard GHd D_are GAr D_back GBk D_isrow GR D_lens GLe
    have GLo : FnG l.prog w K mg base 6 f_longer _ ["_law_pot_here", "_law_numbers"] (sp_longer) := ok_longer F_longer B D_sizes GSz D_heard GHd D_are GAr D_back GBk
    exact ok_law F_law B D_pot D_right (ok_right F_right B D_lrow GRow D_rr GRR D_longer GLo D_drawn GDr)
end G0

open PySem PySem.W PyProof.Rows
set_option maxRecDepth 100000 in
set_option maxHeartbeats 0 in
theorem PySem.Challenge.cw_pointrows_k53_whole_lengths_there_and_ba_holds : PySem.Challenge.rw_pointrows_k53_whole_lengths_there_and_ba.Holds := by
  w_on; o_law; k_head; (case hw => w_witness2)
  k_fill
  refine G0.walk_G (l := PySem.Challenge.rw_pointrows_k53_whole_lengths_there_and_ba) (n := 63) (k := 9) (x := "_law_script") (sp := G0.sp_law) rfl (by decide) rfl ⟨rfl, by decide, by decide⟩ (fun w h Y => PySem.W.kIn_of Y) ?F (fun _ _ a ns hl _ hS => ⟨a, ns, rfl, hS, hl, fun _ => rfl⟩)
  case F =>
    intro w mg fa h KX G hmg
    refine' G0.all_mk KX G hmg ?a_isint ?l_isint ?c_isint ?k_isint ?a_iscount ?l_iscount ?c_iscount ?k_iscount ?a_islist ?l_islist ?c_islist ?k_islist ?a_isrow ?l_isrow ?c_isrow ?k_isrow ?a_iscounts ?l_iscounts ?c_iscounts ?k_iscounts ?a_first ?l_first ?c_first ?k_first ?a_chk ?l_chk ?c_chk ?k_chk ?a_lens ?l_lens ?c_lens ?k_lens ?a_rowby ?l_rowby ?c_rowby ?k_rowby ?a_isl ?l_isl ?c_isl ?k_isl ?a_numat ?l_numat ?c_numat ?k_numat ?a_pot ?l_pot ?c_pot ?k_pot ?a_draw ?l_draw ?c_draw ?k_draw ?a_lrow ?l_lrow ?c_lrow ?k_lrow ?a_passed ?l_passed ?c_passed ?k_passed ?a_sizes ?l_sizes ?c_sizes ?k_sizes ?a_back ?l_back ?c_back ?k_back ?a_are ?l_are ?c_are ?k_are ?a_heard ?l_heard ?c_heard ?k_heard ?a_rr ?l_rr ?c_rr ?k_rr ?a_drawn ?l_drawn ?c_drawn ?k_drawn ?a_longer ?l_longer ?c_longer ?k_longer ?a_right ?l_right ?c_right ?k_right ?a_law ?l_law ?c_law ?k_law ?v_places ?v_sum ?z_isinstance ?z_int ?z_bool ?z_list ?z_tuple ?z_len ?z_all ?z_any ?z_abs ?z_max ?z_min ?z_divmod ?z_range ?z_repr ?z_enumerate ?z_sum ?z_sorted ?z_str ?z_dict ?z_zip ?z_set ?a_L ?x_L ?rv_L ?sa_L ?ex_L ?ty_L ?kc_L ?ga_L ?gg_L ?hd_L ?nv_L ?te_L ?a_ilinit ?t_ilinit ?l_ilinit ?c_ilinit ?k_ilinit
    (case a_isint => k_is)
    (case l_isint => k_is)
    (case c_isint => k_is)
    (case k_isint => k_is)
    (case a_iscount => k_is)
    (case l_iscount => k_is)
    (case c_iscount => k_is)
    (case k_iscount => k_is)
    (case a_islist => k_is)
    (case l_islist => k_is)
    (case c_islist => k_is)
    (case k_islist => k_is)
    (case a_isrow => k_is)
    (case l_isrow => k_is)
    (case c_isrow => k_is)
    (case k_isrow => k_is)
    (case a_iscounts => k_is)
    (case l_iscounts => k_is)
    (case c_iscounts => k_is)
    (case k_iscounts => k_is)
    (case a_first => k_is)
    (case l_first => k_is)
    (case c_first => k_is)
    (case k_first => k_is)
    (case a_chk => k_is)
    (case l_chk => k_is)
    (case c_chk => k_is)
    (case k_chk => k_is)
    (case a_lens => k_is)
    (case l_lens => k_is)
    (case c_lens => k_is)
    (case k_lens => k_is)
    (case a_rowby => k_is)
    (case l_rowby => k_is)
    (case c_rowby => k_is)
    (case k_rowby => k_is)
    (case a_isl => k_is)
    (case l_isl => k_is)
    (case c_isl => k_is)
    (case k_isl => k_is)
    (case a_numat => k_is)
    (case l_numat => k_is)
    (case c_numat => k_is)
    (case k_numat => k_is)
    (case a_pot => k_is)
    (case l_pot => k_is)
    (case c_pot => k_is)
    (case k_pot => k_is)
    (case a_draw => k_is)
    (case l_draw => k_is)
    (case c_draw => k_is)
    (case k_draw => k_is)
    (case a_lrow => k_is)
    (case l_lrow => k_is)
    (case c_lrow => k_is)
    (case k_lrow => k_is)
    (case a_passed => k_is)
    (case l_passed => k_is)
    (case c_passed => k_is)
    (case k_passed => k_is)
    (case a_sizes => k_is)
    (case l_sizes => k_is)
    (case c_sizes => k_is)
    (case k_sizes => k_is)
    (case a_back => k_is)
    (case l_back => k_is)
    (case c_back => k_is)
    (case k_back => k_is)
    (case a_are => k_is)
    (case l_are => k_is)
    (case c_are => k_is)
    (case k_are => k_is)
    (case a_heard => k_is)
    (case l_heard => k_is)
    (case c_heard => k_is)
    (case k_heard => k_is)
    (case a_rr => k_is)
    (case l_rr => k_is)
    (case c_rr => k_is)
    (case k_rr => k_is)
    (case a_drawn => k_is)
    (case l_drawn => k_is)
    (case c_drawn => k_is)
    (case k_drawn => k_is)
    (case a_longer => k_is)
    (case l_longer => k_is)
    (case c_longer => k_is)
    (case k_longer => k_is)
    (case a_right => k_is)
    (case l_right => k_is)
    (case c_right => k_is)
    (case k_right => k_is)
    (case a_law => k_is)
    (case l_law => k_is)
    (case c_law => k_is)
    (case k_law => k_is)
    (case v_places => k_is)
    (case v_sum => k_is)
    (case z_isinstance => k_is)
    (case z_int => k_is)
    (case z_bool => k_is)
    (case z_list => k_is)
    (case z_tuple => k_is)
    (case z_len => k_is)
    (case z_all => k_is)
    (case z_any => k_is)
    (case z_abs => k_is)
    (case z_max => k_is)
    (case z_min => k_is)
    (case z_divmod => k_is)
    (case z_range => k_is)
    (case z_repr => k_is)
    (case z_enumerate => k_is)
    (case z_sum => k_is)
    (case z_sorted => k_is)
    (case z_str => k_is)
    (case z_dict => k_is)
    (case z_zip => k_is)
    (case z_set => k_is)
    (case a_L => k_is)
    (case x_L => k_is)
    (case rv_L => decide +kernel)
    (case sa_L => k_is)
    (case ex_L => k_is)
    (case ty_L => k_is)
    (case kc_L => k_is)
    (case ga_L => k_is)
    (case gg_L => k_is)
    (case hd_L => k_is)
    (case nv_L => k_is)
    (case te_L => first | rfl | k_is)
    (case a_ilinit => k_is)
    (case t_ilinit => k_is)
    (case l_ilinit => k_is)
    (case c_ilinit => k_is)
    (case k_ilinit => k_is)

