import PyProof.Rows.All
import Wide.All
import OpenK.AllK
import Wide.FinOn
import HandS.ForMost
import HandS.Deep
import HandS.Gcd
import HandS.IsInst
import HandS.Wide
import HandS.WideBits
import HandS.FStrTup
import HandS.Walk
import KE.GoesEnum
import KE.GoesMore
import HandS.Property
import HandS.OwnEq
import HandS.Star
import HandS.Style
import HandS.FStr
import KE.KSortTupG
import HandS.TupSets
import HandS.MakeKw
import HandS.MakeKwOnly
import PySem.Challenge.RW_pointrows_k22_whole_spots_kept
set_option Elab.async false
set_option linter.all false
set_option maxRecDepth 100000
set_option maxHeartbeats 4000000
namespace G0
open PySem PySem.Spec PyProof.Rows L2
/-! A def's promise where no repr is under way (the around's guards are empty): repr of data is then known. -/
structure FnG (P : Program) (w : World) (K : PySem.W.Frag) (mg : Str → Option Value) (base : Heap) (k : Nat) (f : Addr) (fd : FuncData) (ps : List Str) (sp : Sp) : Prop where
  len : ∀ vs H Q E, sp vs H Q E → vs.length = ps.length
  run : ∀ (A : Around) (outer : List Env) (s : Shared) (H : Hp) (args : Args) (us : List Value) (vs : List V) (Q : VK) (E : XK), A.guards = some [] → Room k A →
    Env0 P w K mg base A outer s H → BindsTo s fd args (ps.zip us) → Vals vs us → sp vs H Q E → codeAny (model P w) A (.call (.ref f) args) (CR CX0 outer P w H s Q E) s
theorem FnG.ofOk {P : Program} {w : World} {K : PySem.W.Frag} {mg : Str → Option Value} {base : Heap} {k : Nat} {f : Addr} {fd : FuncData} {ps : List Str} {sp : Sp} (F : FnOk P w K mg base CX0 k f fd ps sp) : FnG P w K mg base k f fd ps sp :=
  ⟨F.len, fun A outer s H args us vs Q E _ hr he hb hv hs => F.run A outer s H args us vs Q E hr he hb hv hs⟩
theorem FnG.mono {P : Program} {w : World} {K : PySem.W.Frag} {mg : Str → Option Value} {base : Heap} {j k : Nat} {f : Addr} {fd : FuncData} {ps : List Str} {sp : Sp} (F : FnG P w K mg base j f fd ps sp) (h : j ≤ k) : FnG P w K mg base k f fd ps sp :=
  ⟨F.len, fun A outer s H args us vs Q E hg hr => F.run A outer s H args us vs Q E hg (hr.mono h)⟩

section
variable {X : Cx} {k : Nat} {f : Addr} {fd : FuncData} {ps : List Str} {sp : Sp} {dvs : List V} {ds : List Value} {E : XK} {x : Str} {p pos : Pos} {e : Expr} {es : List Expr} {t : TA}
theorem run_g {pn : List (Addr × Obj)} {σ : L2.St} {H : Hp} {s : Shared} {Q : VK} {us : List Value} {vs : List V} (F : FnG X.prog X.w X.K X.mg X.base k f fd ps sp) (gd : X.A.guards = some []) (room : Room k X.A) (bn : Binds X.K fd ps ds) (dv : Vals dvs ds)
    (J : Inv X pn σ H s) (rv : Vals vs us) (want : sp (vs ++ dvs) H Q E) : wpAny (model X.prog X.w) X.A (call (.ref f) us) (EP X pn σ Q) X.xe s := by
  have rv2 := rv.append dv
  have ln : (us ++ ds).length = ps.length := rv2.length.symm.trans (F.len _ _ _ _ want)
  refine wpAny_call (codeAny_mono (F.run X.A X.stack s H ⟨us, []⟩ (us ++ ds) (vs ++ dvs) Q E gd room J.env0 (bn s us J.kIn ln) rv2 want) fun res s2 got => ?_)
  match res, got with
  | .error _, got => exact got.elim
  | .ok (.ret _), got => exact J.after got
  | .ok .next, got => exact got.elim
  | .ok .brk, got => exact got.elim
  | .ok .cont, got => exact got.elim
theorem pe_callG (F : FnG X.prog X.w X.K X.mg X.base k f fd ps sp) (gd : X.A.guards = some []) (room : Room k X.A) (gl : Gl X x) (at_ : X.mg x = some (.ref f)) (kp : PySem.W.keepIn X.K (.ref f) = true) (bn : Binds X.K fd ps ds) (dv : Vals dvs ds)
    (pa : PA X (e :: es) t) (hdb : (x == ("__debug__" : Str)) = false := by decide) (he : starEach (e :: es) X.env = (false, eval e X.env) :: starEach es X.env := by rfl) (hpl : (backTo pos (starEach es X.env)).any (·.1) = false := by rfl) :
    PE X (.Call (.Name x p) (e :: es) [] pos) (tCall sp dvs E t) := by
  constructor
  intro pn s σ H Q J want
  apply wpAny_Call_Name_kw
  refine ld_glob J gl at_ ?_ hdb
  refine PySem.W.callWith_K (h₀ := X.base) J.ok.mod.kin kp ?_ he hpl
  refine thn (pa.run pos pn s σ H _ J want) ?_
  rintro us s1 ⟨vs, H1, J1, rv, q⟩
  exact ⟨J1.kIn, run_g F gd room bn dv J1 rv q⟩
end

/-- a def's body, the guards empty -/
theorem _root_.L2.Fun.okG {P : Program} {w : World} {K : PySem.W.Frag} {mg : Str → Option Value} {base : Heap} {x qual : Str} {st : Stmt} {f : Addr} {fd : FuncData} {N ps : List Str} {k : Nat} {sp : Sp} (F : Fun K x qual st f fd) (S : FnScope N ps (defScope st))
    (ln : ∀ vs H Q E, sp vs H Q E → vs.length = ps.length)
    (body : ∀ (cdv : Value) (A : Around) (outer : List Env) (s : Shared) (H : Hp) (vs : List V) (Q : VK) (E : XK), (A.deeper (envOfC qual (defScope st) s.heap.objs.size f cdv)).guards = some [] → Room k (A.deeper (envOfC qual (defScope st) s.heap.objs.size f cdv)) → sp vs H Q E →
      ∃ t, PSs (cxOf CX0 P w K mg base N qual (defScope st) f cdv A outer s H E).nox (defBody st) t ∧ t { nx := fun _ H' => Q .non H', rt := Q } (start N vs) H) : FnG P w K mg base (k + 1) f fd ps sp := by
  obtain ⟨oc, od, kV, doc, pm, an, cdv, ct, osl, rfl, look, code⟩ := F.ex
  constructor
  · exact ln
  intro A outer s H args us vs Q E gd room e0 bn rv want
  have ln1 := ln _ _ _ _ want
  have kin : K.In s.heap := e0.mod.kin.keeps fun b o q => (e0.bs b o q).1
  have nolim : s.heap.NoLimit := e0.mod.nolimit.keeps fun b o q => (e0.bs b o q).1
  have kinds : ∀ y ∈ ps.zip us, (defScope st).names.lookup y.1 = some .local ∨ ((defScope st).names.lookup y.1 = some .cell ∧ ((cellsFrom (s.heap.objs.size + 1) (defScope st).names []).lookup y.1).isSome = true) := by
    rintro ⟨n, v⟩ mem
    rcases S.par n (List.of_mem_zip mem).1 with here | here
    · exact .inl here
    · exact .inr ⟨here, PySem.W.cellsFrom_some _ _ _ (.inl here)⟩
  refine codeAny_call_function room.depth (kin _ _ look) rfl S.co S.gen rfl (PySem.W.codeRec_of kin code) (bn _ _ _ _ ?_)
  refine wpAny_newFunctionEnv_cells S.kind kinds fun env he s1 into => ?_
  cases he
  refine ⟨nolim.keeps into.toInCall.keep, codeAny_func ?_⟩
  obtain ⟨t, ht, run⟩ := body cdv A outer s H vs Q E gd (room.deeper _) want
  have J : Inv (cxOf CX0 P w K mg base N qual (defScope st) f cdv A outer s H E) [] (start N vs) H s1 := inv_start S room.hd e0 ln1 rv into
  refine wpAny_mono (ht.nox.run [] s1 (start N vs) H _ J run) (fun fl s2 got => ?_) fun _ _ got => got
  match fl, got with
  | .ret u, ⟨v, σ2, H2, J2, rv2, q⟩ => exact ⟨v, H2, J2.os, J2.bare, J2.base, J2.hok, rv2, q⟩
  | .next, ⟨σ2, H2, J2, q⟩ => exact ⟨.non, H2, J2.os, J2.bare, J2.base, J2.hok, rfl, q⟩
  | .brk, ⟨_, _, _, q⟩ => exact q.elim
  | .cont, ⟨_, _, _, q⟩ => exact q.elim

/-! ### repr of data -/
def rRepr (K : PySem.W.Frag) : List V → Hp → VK → Prop := fun xs H Q => ∃ (x : V) (d : PyData), xs = [x] ∧ Dp K H x d ∧ d.showable = true ∧ d.hasDict = false ∧ d.depth ≤ 16 ∧ d.shown.length ≤ sizeLine ∧ Q (.str d.shown) H
theorem cr_repr {X : Cx} (gd : X.A.guards = some []) (hu : X.A.units + 64 < cLine) : CallR X (.builtin "repr") (fun xs H Q => ∃ (a : Addr) (d : PyData), xs = [.ref a] ∧ Dp X.K H (.ref a) d ∧ d.showable = true ∧ d.hasDict = false ∧ d.depth ≤ 16 ∧ d.shown.length ≤ sizeLine ∧ Q (.str d.shown) H) := by
  intro pn s σ H xs us Q J rv h
  obtain ⟨a, d, rfl, dp, sh, nd, dep, z, q⟩ := h
  obtain ⟨u, rfl, ru⟩ := vals1 rv
  cases ru
  obtain ⟨as, rd⟩ := Dp.reads J d _ _ dp rfl
  refine repr_of_reads' rd sh (fun e => ?_) gd (by omega) (fun _ _ e => e) (fun h2 u2 tk keep => ?_) z
  · rw [nd] at e
    cases e
  · exact ⟨.str d.shown, H, J.kept keep, ⟨_, rfl⟩, q⟩
end G0

namespace G0
open PySem PySem.Spec PyProof.Rows L2
/-- the law is called where no repr is under way -/
theorem call_top {P : Program} {w : World} {K : PySem.W.Frag} {mg mb : Str → Option Value} {k : Nat} {fa a : Addr} {fd : FuncData} {x : Str} {sp : Sp} {s1 : Shared} {vs : List Value} {ns : List Int}
    (kin : K.In s1.heap) (hns : s1.heap.Ns mainGlobals mg) (hb : s1.heap.Ns builtinsNs mb) (hbb : ∀ x : Str, x ≠ "__name__" → mb x = bootBuiltins x) (lim : s1.heap.NoLimit) (gens : s1.gens = #[])
    (ha : s1.heap.get? a = some { cls := .type "list", data := .seq vs.toArray }) (hi : IntsAre vs ns) (hl : ns.length ≤ sizeLine) (room : Room k callerA)
    (F : ∀ base : Heap, K.In base → base.Ns mainGlobals mg → FnG P w K mg base k fa fd [x] sp) (bind : ∀ (s : Shared) (u : Value), BindsTo s fd ⟨[u], []⟩ [(x, u)])
    (want : ∀ H : Hp, Only H → SqL K H a (ns.map V.int) → sp [.ref a] H (fun v _ => v = .bl true) fun _ _ _ => False) :
    codeAny (model P w) callerA (.call (.ref fa) ⟨[.ref a], []⟩) (fun r s2 => r = .ok (.ret (.bool true)) ∧ OldK s1.heap s2.heap ∧ s2.os = s1.os ∧ AllBare s2.gens) s1 := by
  have vv := vals_ints hi
  have lv := hi.length
  -- H tracks nothing, or the script alone
  have main : ∀ H : Hp, Only H → SqL K H a (ns.map V.int) → HOk P w H s1.heap → (∀ b, H b ≠ none → b = a ∧ K.lookup a = none) →
      codeAny (model P w) callerA (.call (.ref fa) ⟨[.ref a], []⟩) (fun r s2 => r = .ok (.ret (.bool true)) ∧ OldK s1.heap s2.heap ∧ s2.os = s1.os ∧ AllBare s2.gens) s1 := by
    intro H only sq hok just
    have free : ∀ {b : Addr} {ob : Obj} {es : Array DictEntry} {ep : Nat}, s1.heap.get? b = some ob → ob.data = .dict es ep → H b = none := by
      intro b ob es ep e1 e2
      refine Classical.byContradiction fun no => ?_
      obtain rfl := (just b no).1
      rw [ha] at e1
      cases e1
      cases (show Data.seq vs.toArray _ = Data.dict es ep from e2)
    have ns_of : ∀ {b : Addr} {m : Str → Option Value}, s1.heap.Ns b m → (hidT s1.heap H).Ns b m := by
      rintro b m ⟨ob, es, ep, e1, e2, rest⟩
      exact ⟨ob, es, ep, hidT_get e1 (free e1 e2), e2, rest⟩
    have kinH : K.In (hidT s1.heap H) := by
      intro b ob e1
      refine hidT_get (kin b ob e1) (Classical.byContradiction fun no => ?_)
      obtain ⟨rfl, z⟩ := just b no
      rw [z] at e1
      cases e1
    have limH : (hidT s1.heap H).NoLimit := by
      obtain ⟨mc, l1, l2⟩ := lim
      exact ⟨mc, ns_of l1, l2⟩
    have env : Env0 P w K mg (hidT s1.heap H) callerA [] s1 H := by
      refine ⟨rfl, ⟨kinH, ns_of hns, ⟨mb, ns_of hb, hbb⟩, limH⟩, fun b ob e1 => of_hidT e1, Nat.le_of_eq (hidT_size _ _), trivial, ?_, hok, .of_eq gens⟩
      intro b mem
      cases (show b ∈ ([] : List Addr) from mem)
    refine codeAny_mono ((F _ kinH (ns_of hns)).run callerA [] s1 H ⟨[.ref a], []⟩ [.ref a] [.ref a] _ _ rfl room env (bind s1 (.ref a)) (.cons rfl .nil) (want H only sq)) fun res s2 got => ?_
    match res, got with
    | .error _, got => exact got.elim
    | .ok .next, got => exact got.elim
    | .ok .brk, got => exact got.elim
    | .ok .cont, got => exact got.elim
    | .ok (.ret u), ⟨v, H2, eos, bare, un, hok2, rv, (q : v = .bl true)⟩ =>
      subst q
      obtain rfl : u = Value.bool true := rv
      refine ⟨rfl, OldK.of_keep fun b ob e1 => ?_, eos, bare⟩
      rcases only b with z | ⟨oz, ys, z⟩
      · refine un.keep b ob e1 z (fun mem => ?_) (fun mem => ?_)
        · cases (show b ∈ ([] : List Addr) from mem)
        · cases mem
      · obtain ⟨i1, _⟩ := hok b _ z
        obtain ⟨i2, _⟩ := hok2 b _ (un.frzs b oz _ z)
        exact i2.trans (i1.symm.trans e1)
  cases written : K.lookup a with
  | some ob =>
    have e1 := kin a ob written
    rw [ha] at e1
    cases e1
    refine main (fun _ => none) (fun _ => .inl rfl) (.inr ⟨_, vs.toArray, _, written, rfl, rfl, rfl, ?_, ?_⟩) (fun b u e2 => ?_) (fun b no => absurd rfl no)
    · rw [List.size_toArray, lv]
      exact hl
    · simpa using vv
    · cases (show (none : Option HO) = some u from e2)
  | none =>
    let T : Hp := fun b => if b = a then some (.frz { cls := .type "list", data := .seq vs.toArray } (.lst (ns.map V.int))) else none
    have here : T a = some (.frz { cls := .type "list", data := .seq vs.toArray } (.lst (ns.map V.int))) := if_pos rfl
    have away : ∀ b, b ≠ a → T b = none := fun b ne => if_neg ne
    refine main T (fun b => ?_) (.inl (.inr ⟨_, here⟩)) (fun b u e2 => ?_) (fun b no => ?_)
    · by_cases eb : b = a
      · subst eb
        exact .inr ⟨_, _, here⟩
      · exact .inl (away b eb)
    · by_cases eb : b = a
      · subst eb
        rw [here] at e2
        cases e2
        refine ⟨ha, ?_, vs, _, vv, ha⟩
        rw [List.length_map]
        exact hl
      · rw [away b eb] at e2
        cases e2
    · refine ⟨Classical.byContradiction fun ne => no (away b ne), written⟩
/-- what k_head leaves, by such a promise -/
theorem walk_G {l : PySem.W.OpenLaw} {n k : Nat} {q : Program} {loose : List Str} {XP : (Str → Option Value) → Heap → Prop} {YP : World → Heap → Prop} {d : DefRec} {K : Params → PySem.W.Frag} {sp : PySem.W.Frag → Sp} {x : Str}
    (most : l.most = some n) (fits : n ≤ sizeLine) (nodf : d.params.defaults = []) (room : Room k callerA) (hY : ∀ (w : World) (h : Heap), YP w h → (K w.params).In h)
    (F : ∀ (w : World) (mg : Str → Option Value) (fa : Addr) (h : Heap), (K w.params).In h → h.Ns mainGlobals mg → mg d.name = some (.ref fa) →
      ∃ fd : FuncData, (∀ (s : Shared) (u : Value), BindsTo s fd ⟨[u], []⟩ [(x, u)]) ∧ ∀ base : Heap, (K w.params).In base → base.Ns mainGlobals mg → FnG l.prog w (K w.params) mg base k fa fd [x] (sp (K w.params)))
    (want : ∀ (w : World) (H : Hp) (a : Addr) (ns : List Int), ns.length ≤ n → Only H → SqL (K w.params) H a (ns.map V.int) → sp (K w.params) [.ref a] H (fun v _ => v = .bl true) fun _ _ _ => False) :
    PySem.W.WalkO q loose XP YP l.row.toRowW d [] (fun f vs => PySem.call f vs) := by
  refine Att.attach_call most nodf ?_
  intro w s0 s1 mg mb fa o pm cd doc a vs ns G Y ho hd hcd hmg hobj iv len gens
  obtain ⟨fd, bn, hF⟩ := F w mg fa _ (hY w _ Y) G.T.g hmg
  exact call_top (hY w _ Y) G.T.g G.T.b G.T.builtins G.T.nolimit gens hobj iv (Nat.le_trans len fits) room hF bn fun H only sq => want w H a ns len only sq
end G0

namespace G0
open PySem PySem.Spec PyProof.Rows L2
/-! ### calls whose last arguments are all given by name, in the parameters' sequence -/
structure KB (fd : FuncData) (ps ks : List Str) (n : Nat) : Prop where
  to : ∀ us ws : List Value, us.length = n → ws.length = ks.length → bindArgs fd ⟨us, ks.zip ws⟩ = pure (ps.zip (us ++ ws))
theorem kb_of {K : PySem.W.Frag} {x qual : Str} {st : Stmt} {f : Addr} {fd : FuncData} {ps ks : List Str} {n : Nat} (F : Fun K x qual st f fd)
    (h : ∀ (kV doc pm : Value) (an : Option Addr) (cdv ct : Value) (us ws : List Value), us.length = n → ws.length = ks.length → bindArgs (PySem.W.fnOf x qual (defArgs st) (defBody st) (defScope st) .none kV doc pm an cdv ct) ⟨us, ks.zip ws⟩ = pure (ps.zip (us ++ ws))) : KB fd ps ks n := by
  obtain ⟨oc, od, kV, doc, pm, an, cdv, ct, osl, rfl, _, _⟩ := F.ex
  exact ⟨h kV doc pm an cdv ct⟩
section
variable {X : Cx} {k n : Nat} {f C : Addr} {fd : FuncData} {ps ks : List Str} {sp : Sp} {E : XK} {x m : Str} {p pos apos : Pos} {e o : Expr} {kws : List Keyword} {ta : TE} {tk : TA}
theorem run_kb {pn : List (Addr × Obj)} {σ : L2.St} {H : Hp} {s : Shared} {Q : VK} {us ws : List Value} {vs zs : List V} (F : FnOk X.prog X.w X.K X.mg X.base CX0 k f fd ps sp) (room : Room k X.A) (bn : KB fd ps ks n)
    (J : Inv X pn σ H s) (rv : Vals vs us) (rz : Vals zs ws) (l1 : vs.length = n) (l2 : zs.length = ks.length) (want : sp (vs ++ zs) H Q E) : wpAny (model X.prog X.w) X.A (call (.ref f) us (ks.zip ws)) (EP X pn σ Q) X.xe s := by
  refine wpAny_call (codeAny_mono (F.run X.A X.stack s H ⟨us, ks.zip ws⟩ (us ++ ws) (vs ++ zs) Q E room J.env0 (.of_eq (bn.to us ws (rv.length.symm.trans l1) (rz.length.symm.trans l2))) (rv.append rz) want) fun res s2 got => ?_)
  match res, got with
  | .error _, got => exact got.elim
  | .ok (.ret _), got => exact J.after got
  | .ok .next, got => exact got.elim
  | .ok .brk, got => exact got.elim
  | .ok .cont, got => exact got.elim
/-- f(k = v, ..) -/
def tCallN (sp : Sp) (n : Nat) (E : XK) (tk : TA) : TE := fun σ H Q => tk σ H fun zs H1 => zs.length = n ∧ sp zs H1 Q E
theorem pe_callN (F : FnOk X.prog X.w X.K X.mg X.base CX0 k f fd ps sp) (room : Room k X.A) (gl : Gl X x) (at_ : X.mg x = some (.ref f)) (kp : PySem.W.keepIn X.K (.ref f) = true) (bn : KB fd ps ks 0) (pk : PK X kws tk)
    (hall : (backToKw pos (keywordEach kws X.env)).all (·.1.isSome) = true := by rfl) (hks : (backToKw pos (keywordEach kws X.env)).filterMap (·.1) = ks := by rfl) (hdb : (x == ("__debug__" : Str)) = false := by decide)
    (hpl : ((backTo pos (starEach [] X.env)).any (·.1) || (backToKw pos (keywordEach kws X.env)).any (·.1.isNone)) = false := by rfl) : PE X (.Call (.Name x p) [] kws pos) (tCallN sp ks.length E tk) := by
  constructor
  intro pn s σ H Q J want
  apply wpAny_Call_Name_kw
  refine ld_glob J gl at_ ?_ hdb
  refine PySem.W.callWith_KW0 (h₀ := X.base) J.ok.mod.kin kp hall ?_ hpl
  refine thn (pk.run pos pn s σ H _ J want) ?_
  rintro ws s2 ⟨zs, H2, J2, rz, l2, q2⟩
  rw [hks]
  exact ⟨J2.kIn, run_kb (us := []) (vs := []) F room bn J2 .nil rz rfl l2 q2⟩
/-- o.m(k = v, ..) -/
def tMethN (C : Addr) (m : Str) (sp : Sp) (n : Nat) (E : XK) (ta : TE) (tk : TA) : TE := fun σ H Q => ta σ H fun x H1 => ∃ a dx fs, x = .ref a ∧ H1 a = some (.ins C dx fs) ∧ fs.lookup m = none ∧ tk σ H1 fun zs H2 => zs.length = n ∧ sp (x :: zs) H2 Q E
theorem pe_methN {pl : Sem Bool} (po : PE X o ta) (c : Cls X.K C) (hm : Meth X.K C m f) (F : FnOk X.prog X.w X.K X.mg X.base CX0 k f fd ps sp) (room : Room k X.A) (bn : KB fd ps ks 1) (pk : PK X kws tk)
    (hall : (backToKw pos (keywordEach kws X.env)).all (·.1.isSome) = true := by rfl) (hks : (backToKw pos (keywordEach kws X.env)).filterMap (·.1) = ks := by rfl)
    (hpl : ((backTo pos (starEach [] X.env)).any (·.1) || (backToKw pos (keywordEach kws X.env)).any (·.1.isNone)) = false := by rfl)
    (ht : eval (.Call (.Attribute o m apos) [] kws pos) X.env = (do
      let ov ← eval o X.env
      standAt apos.atName
      let (g, first) ← holding [ov] (getMethod ov m pl)
      callWith pos g first (backTo pos (starEach [] X.env)) (backToKw pos (keywordEach kws X.env))) := by rfl) :
    PE X (.Call (.Attribute o m apos) [] kws pos) (tMethN C m sp ks.length E ta tk) := by
  constructor
  intro pn s σ H Q J want
  refine PySem.W.methodCall_KW (pl := pl) (thn (po.run pn s σ H _ J want) ?_) ht
  rintro u s1 ⟨x, H1, J1, rx, a, dx, fs, rfl, ea, l, q⟩
  obtain rfl : u = Value.ref a := rx
  refine getmeth_ok J1 ea c hm l ?_
  refine PySem.W.callWith_KW0 (first := [.ref a]) (h₀ := X.base) J1.ok.mod.kin hm.kp hall ?_ hpl
  refine thn (pk.run pos pn s1 σ H1 _ J1 q) ?_
  rintro ws s2 ⟨zs, H2, J2, rz, l2, q2⟩
  rw [hks]
  refine ⟨J2.kIn, ?_⟩
  exact run_kb (us := [.ref a]) (vs := [.ref a]) F room bn J2 (.cons rfl .nil) rz rfl l2 q2
end

/-! ### data in the heap -/
theorem same_new {H : Hp} {q : Addr} {o : HO} (h : H q = none) : Same H (upd H q o) := fun b u e => by
  rw [upd_ne (ne_of_none e h)]
  exact e
theorem same_t {K : PySem.W.Frag} {H H' : Hp} {a : Addr} {xs : List V} (e : Same H H') (h : SqT K H a xs) : SqT K H' a xs := by
  rcases h with (h | ⟨o, h⟩) | h
  · exact .inl (.inl (e _ _ h))
  · exact .inl (.inr ⟨o, e _ _ h⟩)
  · exact .inr h
/-- a list or a tuple -/
def Sq (K : PySem.W.Frag) (H : Hp) (a : Addr) (xs : List V) : Prop := SqL K H a xs ∨ SqT K H a xs
theorem Sq.same {K : PySem.W.Frag} {H H' : Hp} {a : Addr} {xs : List V} (e : Same H H') (h : Sq K H a xs) : Sq K H' a xs := h.imp e.seq (same_t e)
theorem SqT.mk {K : PySem.W.Frag} {H : Hp} {a : Addr} {xs : List V} (h : H a = some (.tup xs)) : SqT K H a xs := .inl (.inl h)
theorem SqL.mk {K : PySem.W.Frag} {H : Hp} {a : Addr} {xs : List V} (h : H a = some (.lst xs)) : SqL K H a xs := .inl (.inl h)
mutual
theorem Dp.same {K : PySem.W.Frag} {H H' : Hp} (e : Same H H') : ∀ {v : V} {d : PyData}, Dp K H v d → Dp K H' v d
  | _, _, .non => .non
  | _, _, .bl b => .bl b
  | _, _, .int i => .int i
  | _, _, .str x => .str x
  | _, _, .lst h a => .lst (e.seq h) (DpAll.same e a)
  | _, _, .tup h a => .tup (same_t e h) (DpAll.same e a)
theorem DpAll.same {K : PySem.W.Frag} {H H' : Hp} (e : Same H H') : ∀ {vs : List V} {ds : List PyData}, DpAll K H vs ds → DpAll K H' vs ds
  | _, _, .nil => .nil
  | _, _, .cons h a => .cons (Dp.same e h) (DpAll.same e a)
end
theorem dp_ints {K : PySem.W.Frag} {H : Hp} : ∀ ns : List Int, DpAll K H (ns.map V.int) (ns.map PyData.int)
  | [] => .nil
  | n :: ns => .cons (.int n) (dp_ints ns)
/-- what a list, a tuple of ints is, as data -/
abbrev dTup (ns : List Int) : PyData := .tuple (ns.map .int)
abbrev dLst (ns : List Int) : PyData := .list (ns.map .int)
theorem dp_tup {K : PySem.W.Frag} {H : Hp} {a : Addr} {ns : List Int} (h : SqT K H a (ns.map V.int)) : Dp K H (.ref a) (dTup ns) := .tup h (dp_ints ns)
theorem dp_lst {K : PySem.W.Frag} {H : Hp} {a : Addr} {ns : List Int} (h : SqL K H a (ns.map V.int)) : Dp K H (.ref a) (dLst ns) := .lst h (dp_ints ns)
theorem eqv_ints : ∀ ns ms : List Int, PyData.eqvAll (ns.map PyData.int) (ms.map PyData.int) = decide (ns = ms)
  | [], [] => by simp [PyData.eqvAll]
  | [], _ :: _ => by simp [PyData.eqvAll]
  | _ :: _, [] => by simp [PyData.eqvAll]
  | n :: ns, m :: ms => by
    have ih := eqv_ints ns ms
    simp only [List.map_cons, PyData.eqvAll, PyData.eqv, ih, List.cons.injEq, Bool.decide_and]
    congr 1
theorem eqv_tup (ns ms : List Int) : PyData.eqv (dTup ns) (dTup ms) = decide (ns = ms) := by
  simp only [PyData.eqv, eqv_ints]
end G0

namespace G0
open PySem PySem.Spec PyProof.Rows L2
/-! ### data whose text is short enough -/
mutual
def szD : PyData → Nat
  | .none => 5
  | .bool _ => 5
  | .int _ => 1930
  | .str x => (reprText x).length
  | .list xs => szAll xs + 3
  | .tuple xs => szAll xs + 3
  | .dict _ => 0
def szAll : List PyData → Nat
  | [] => 0
  | x :: xs => szD x + 2 + szAll xs
end
theorem list_text (ts : List Str) : (listText ts).length ≤ piled ts + 2 := by
  unfold listText
  rw [strLen_append]
  have e1 : ((("[" : String) : Str)).length = 1 := rfl
  have e2 : ((("]" : String) : Str)).length = 1 := rfl
  cases ts with
  | nil =>
    show (("[" : String) : Str).length + _ ≤ _
    omega
  | cons t r =>
    show (textFrom 1 ((("[" : String) : Str) ++ ((if 0 > 0 then ", " else "" : String) : Str) ++ t) r).length + _ ≤ _
    have e3 : (((if 0 > 0 then ", " else "" : String) : Str)).length = 0 := rfl
    rw [textFrom_length_pos _ _ _ Nat.one_pos, strLen_append, strLen_append, piled_cons]
    omega
mutual
theorem shown_le : ∀ d : PyData, d.showable = true → d.hasDict = false → d.shown.length ≤ szD d
  | .none, _, _ => by
    simp only [PyData.shown, szD]
    decide
  | .bool b, _, _ => by
    cases b <;> simp only [PyData.shown, szD] <;> decide
  | .int i, h, _ => by
    simp only [PyData.shown, szD]
    simp only [PyData.showable, decide_eq_true_eq] at h
    have e := int_text_length_le (k := 1920) (by decide) h
    have e2 : ((toString i : String) : Str).length = (toString i).length := PySem.ofString_length _
    omega
  | .str x, _, _ => by
    simp only [PyData.shown, szD]
    exact Nat.le_refl _
  | .list xs, h, n => by
    simp only [PyData.showable] at h
    simp only [PyData.hasDict] at n
    simp only [PyData.shown, szD]
    have e1 := list_text (PyData.shownAll xs)
    have e2 := shownAll_le xs h n
    omega
  | .tuple xs, h, n => by
    simp only [PyData.showable] at h
    simp only [PyData.hasDict] at n
    simp only [PyData.shown, szD]
    have e1 := fmt_text (PyData.shownAll xs)
    have e2 := shownAll_le xs h n
    omega
  | .dict _, _, n => by
    simp only [PyData.hasDict] at n
    cases n
theorem shownAll_le : ∀ xs : List PyData, PyData.showableAll xs = true → PyData.hasDictAll xs = false → piled (PyData.shownAll xs) ≤ szAll xs
  | [], _, _ => by
    simp only [PyData.shownAll, szAll, piled_nil]
    exact Nat.le_refl _
  | x :: xs, h, n => by
    simp only [PyData.showableAll, Bool.and_eq_true] at h
    simp only [PyData.hasDictAll, Bool.or_eq_false_iff] at n
    have e1 := shown_le x h.1 n.1
    have e2 := shownAll_le xs h.2 n.2
    simp only [PyData.shownAll, szAll, piled_cons]
    omega
end
/-- short data, no dict in it: its repr is known -/
structure Fine (d : PyData) : Prop where
  sh : d.showable = true
  nd : d.hasDict = false
  dep : d.depth ≤ 16
  sz : szD d ≤ 10000000
theorem Fine.fit {d : PyData} (h : Fine d) : d.shown.length ≤ sizeLine := by
  have e := shown_le d h.sh h.nd
  have := h.sz
  rw [sizeLine_eq]
  omega
/-- a list of fine ones, no more than 4000 of them, deep and long as told -/
structure FineAll (ds : List PyData) (dep sz : Nat) : Prop where
  sh : PyData.showableAll ds = true
  nd : PyData.hasDictAll ds = false
  dep : PyData.depthAll ds ≤ dep
  sz : szAll ds ≤ sz
theorem FineAll.nil {dep sz : Nat} : FineAll [] dep sz := ⟨by simp only [PyData.showableAll], by simp only [PyData.hasDictAll], by simp only [PyData.depthAll]; exact Nat.zero_le _, by simp only [szAll]; exact Nat.zero_le _⟩
theorem FineAll.cons {d : PyData} {ds : List PyData} {dep s1 s2 : Nat} (h1 : d.showable = true) (h2 : d.hasDict = false) (h3 : d.depth ≤ dep) (h4 : szD d ≤ s1) (h : FineAll ds dep s2) : FineAll (d :: ds) dep (s1 + 2 + s2) := by
  refine ⟨?_, ?_, ?_, ?_⟩
  · simp only [PyData.showableAll, h1, h.sh, Bool.and_self]
  · simp only [PyData.hasDictAll, h2, h.nd, Bool.or_self]
  · simp only [PyData.depthAll]
    exact Nat.max_le.mpr ⟨h3, h.dep⟩
  · simp only [szAll]
    have := h.sz
    omega
theorem small_log {i : Int} (h : i.natAbs < 2 ^ 1919) : i.natAbs.log2 < 1920 := by
  by_cases e : i.natAbs = 0
  · rw [e]
    decide
  · exact (Nat.log2_lt e).mpr (Nat.lt_trans h (by decide +kernel))
/-- ints of up to 1900 bits -/
def Sm (ns : List Int) : Prop := ∀ n ∈ ns, n.natAbs < 2 ^ 1919
theorem fine_ints : ∀ {ns : List Int}, Sm ns → FineAll (ns.map PyData.int) 0 (1932 * ns.length)
  | [], _ => .nil
  | n :: ns, h => by
    have ih := fine_ints (ns := ns) fun m hm => h m (List.mem_cons_of_mem _ hm)
    have e := FineAll.cons (d := .int n) (dep := 0) (s1 := 1930) (by simp only [PyData.showable, decide_eq_true_eq]; exact small_log (h n List.mem_cons_self)) (by simp only [PyData.hasDict]) (by simp only [PyData.depth]; exact Nat.le_refl _) (by simp only [szD]; exact Nat.le_refl _) ih
    refine ⟨e.sh, e.nd, e.dep, Nat.le_trans e.sz ?_⟩
    rw [List.length_cons]
    omega
theorem Fine.tup {ds : List PyData} {dep sz : Nat} (h : FineAll ds dep sz) (h1 : dep ≤ 15) (h2 : sz + 3 ≤ 10000000) : Fine (.tuple ds) := by
  refine ⟨by simp only [PyData.showable]; exact h.sh, by simp only [PyData.hasDict]; exact h.nd, ?_, ?_⟩
  · have := h.dep
    simp only [PyData.depth]
    omega
  · have := h.sz
    simp only [szD]
    omega
theorem Fine.lst {ds : List PyData} {dep sz : Nat} (h : FineAll ds dep sz) (h1 : dep ≤ 15) (h2 : sz + 3 ≤ 10000000) : Fine (.list ds) := by
  refine ⟨by simp only [PyData.showable]; exact h.sh, by simp only [PyData.hasDict]; exact h.nd, ?_, ?_⟩
  · have := h.dep
    simp only [PyData.depth]
    omega
  · have := h.sz
    simp only [szD]
    omega
theorem fine_tup {ns : List Int} (h : Sm ns) (l : ns.length ≤ 5000) : Fine (dTup ns) := .tup (fine_ints h) (by decide) (by omega)
theorem fine_lst {ns : List Int} (h : Sm ns) (l : ns.length ≤ 5000) : Fine (dLst ns) := .lst (fine_ints h) (by decide) (by omega)
/-- repr of fine data -/
def rReprF (K : PySem.W.Frag) : List V → Hp → VK → Prop := fun xs H Q => ∃ (a : Addr) (d : PyData), xs = [.ref a] ∧ Dp K H (.ref a) d ∧ Fine d ∧ Q (.str d.shown) H
theorem call_repr {X : Cx} (gd : X.A.guards = some []) (hu : X.A.units + 64 < cLine) : CallR X (.builtin "repr") (rReprF X.K) := by
  intro pn s σ H xs us Q J rv h
  obtain ⟨a, d, e, dp, f, q⟩ := h
  exact cr_repr gd hu pn s σ H xs us Q J rv ⟨a, d, e, dp, f.sh, f.nd, f.dep, f.fit, q⟩
end G0

namespace G0
open PySem PySem.Spec PyProof.Rows L2
/-! ### comprehensions that only add: an item x gives what F says, or nothing -/
def fm (F : V → Option V) (xs : List V) : List V := xs.filterMap F
theorem fm_succ {F : V → Option V} {xs : List V} {i : Nat} {x : V} (h : xs[i]? = some x) : fm F (xs.take (i + 1)) = fm F (xs.take i) ++ (match F x with | some y => [y] | none => []) := by
  unfold fm
  rw [List.take_add_one, h, List.filterMap_append]
  congr 1
  simp only [Option.toList]
  cases e : F x <;> simp [e]
theorem fm_len (F : V → Option V) (xs : List V) (i : Nat) : (fm F (xs.take i)).length ≤ xs.length :=
  Nat.le_trans (List.length_filterMap_le ..) (by rw [List.length_take]; exact Nat.min_le_right _ _)
section
variable {K : PySem.W.Frag} {a : Addr} {xs : List V} {g : TG} {tt : TT} {te : TE} {vs : List Nat} {σ : L2.St} {H1 : Hp} {D : Addr} {Qd : Hp → Prop}
/-- one turn, whatever follows -/
def Turn1 (g : TG) (tt : TT) (te : TE) (vs : List Nat) (σ : L2.St) (F : V → Option V) (x : V) (H : Hp) : Prop :=
  ∀ (G : V → Hp → Prop) (N : Hp → Prop), (F x = none → ∀ H', Same H H' → N H') → (∀ y, F x = some y → ∀ H', Same H H' → G y H') → g x (wipe σ vs) H fun σ2 H2 => wipe σ2 vs = wipe σ vs ∧ tt σ2 H2 fun b H3 => if b = true then te σ2 H3 G else N H3
theorem turn_fm {n : Nat} (F : V → Option V) (hn : xs.length < sizeLine) {i : Nat} {x : V} {H : Hp} {N1 : Hp → Prop} (hx : xs[i]? = some x) (hsame : Same H1 H) (hD1 : H1 D = none) (hD : H D = some (.lst (fm F (xs.take i)))) (t : Turn1 g tt te vs σ F x H)
    (nx : ∀ H', Same H1 H' → H' D = some (.lst (fm F (xs.take (i + 1)))) → N1 H') :
    g x (wipe σ vs) H fun σ2 H2 => wipe σ2 vs = wipe σ vs ∧ tt σ2 H2 fun b H3 => if b = true then te σ2 H3 fun y H4 => ∃ acc, H4 D = some (.lst acc) ∧ acc.length < sizeLine ∧ N1 (upd H4 D (.lst (acc ++ [y]))) else N1 H3 := by
  refine t _ _ (fun e H' s => ?_) (fun y e H' s => ?_)
  · refine nx H' (hsame.trans s) ?_
    rw [fm_succ hx, e, List.append_nil]
    exact s _ _ hD
  · refine ⟨_, s _ _ hD, Nat.lt_of_le_of_lt (fm_len F xs i) hn, nx _ (fun b o eb => ?_) ?_⟩
    · rw [upd_ne (ne_of_none eb hD1)]
      exact s _ _ (hsame _ _ eb)
    · rw [upd_same, fm_succ hx, e]
theorem lcL (F : V → Option V) (hl : SqL K H1 a xs) (hn : xs.length < sizeLine) (hD : H1 D = none) (t : ∀ x, x ∈ xs → ∀ H, Same H1 H → Turn1 g tt te vs σ F x H) (hd : ∀ H, Same H1 H → H D = some (.lst (fm F xs)) → Qd H) :
    ∃ W : Nat → Nat → Hp → Prop, (∃ m, W 0 m (upd H1 D (.lst []))) ∧ ∀ i m H, W i m H →
      ((Itl K a).stop i H ∧ Qd H) ∨ ((Itl K a).go i H ∧ ∃ Nx : Hp → Prop, (∀ H', Nx H' → ∃ m', m' < m ∧ W (i + 1) m' H') ∧ ∀ x H', (Itl K a).yld i H x H' → g x (wipe σ vs) H' fun σ2 H2 => wipe σ2 vs = wipe σ vs ∧ tt σ2 H2 fun b H3 =>
        if b = true then te σ2 H3 fun y H4 => ∃ acc, H4 D = some (.lst acc) ∧ acc.length < sizeLine ∧ Nx (upd H4 D (.lst (acc ++ [y]))) else Nx H3) :=
  lc_list (xs := xs) (fun i H => Same H1 H ∧ H D = some (.lst (fm F (xs.take i)))) ⟨same_new hD, upd_same⟩ (fun _ _ _ h => h.1.seq hl)
    (fun i x H hx h => turn_fm (n := 0) F hn hx h.1 hD h.2 (t x (List.mem_of_getElem? hx) H h.1) fun H' s d => ⟨s, d⟩) (fun H h => hd H h.1 (by rw [h.2, List.take_length]))
theorem lcT (F : V → Option V) (hl : SqT K H1 a xs) (hn : xs.length < sizeLine) (hD : H1 D = none) (t : ∀ x, x ∈ xs → ∀ H, Same H1 H → Turn1 g tt te vs σ F x H) (hd : ∀ H, Same H1 H → H D = some (.lst (fm F xs)) → Qd H) :
    ∃ W : Nat → Nat → Hp → Prop, (∃ m, W 0 m (upd H1 D (.lst []))) ∧ ∀ i m H, W i m H →
      ((Itt K a).stop i H ∧ Qd H) ∨ ((Itt K a).go i H ∧ ∃ Nx : Hp → Prop, (∀ H', Nx H' → ∃ m', m' < m ∧ W (i + 1) m' H') ∧ ∀ x H', (Itt K a).yld i H x H' → g x (wipe σ vs) H' fun σ2 H2 => wipe σ2 vs = wipe σ vs ∧ tt σ2 H2 fun b H3 =>
        if b = true then te σ2 H3 fun y H4 => ∃ acc, H4 D = some (.lst acc) ∧ acc.length < sizeLine ∧ Nx (upd H4 D (.lst (acc ++ [y]))) else Nx H3) :=
  lc_tup (xs := xs) (fun i H => Same H1 H ∧ H D = some (.lst (fm F (xs.take i)))) ⟨same_new hD, upd_same⟩ (fun _ _ _ h => same_t h.1 hl)
    (fun i x H hx h => turn_fm (n := 0) F hn hx h.1 hD h.2 (t x (List.mem_of_getElem? hx) H h.1) fun H' s d => ⟨s, d⟩) (fun H h => hd H h.1 (by rw [h.2, List.take_length]))
end
theorem fm_map (f : V → V) : ∀ xs : List V, fm (fun x => some (f x)) xs = xs.map f
  | [] => rfl
  | x :: xs => by
    show f x :: fm _ xs = f x :: xs.map f
    rw [fm_map f xs]
/-- types of what stands in lists and tuples -/
theorem ty_l {K : PySem.W.Frag} {H : Hp} {a : Addr} {xs : List V} (h : SqL K H a xs) : TyX K H (.ref a) (.type "list") := by
  rcases h with (h | ⟨o, h⟩) | h
  · exact .base (.lst h)
  · exact .base (.frz h)
  · obtain ⟨o, its, n, hk, hc, _⟩ := h
    exact .kList hk hc
theorem ty_t {K : PySem.W.Frag} {H : Hp} {a : Addr} {xs : List V} (h : SqT K H a xs) : TyX K H (.ref a) (.type "tuple") := by
  rcases h with (h | ⟨o, h⟩) | h
  · exact .base (.tup h)
  · exact .fTuple h
  · obtain ⟨o, its, n, hk, hc, _⟩ := h
    exact .kTuple hk hc
end G0

namespace G0
open PySem PySem.Spec PyProof.Rows L2
/-! ### any(xs), xs ints in a list or a tuple -/
theorem truths {prog : Program} {w : World} {A : Around} : ∀ {ns : List Int} {its : List Value}, Vals (ns.map V.int) its → TruthOf prog w A (fun i v => its.toArray[i]? = some v) (fun i => ns.getD i 0 != 0) := by
  intro ns its rv i v s Q E hv hq
  have hv' : its[i]? = some v := by simpa using hv
  have look : ∀ {ms : List Int} {us : List Value} {j : Nat}, Vals (ms.map V.int) us → us[j]? = some v → ∃ n t, ms[j]? = some n ∧ v = .int n t := by
    intro ms
    induction ms with
    | nil =>
      intro us j r h
      cases r
      cases h
    | cons m ms ih =>
      intro us j r h
      cases r with
      | cons r1 r2 =>
        cases j with
        | zero =>
          obtain ⟨t, rfl⟩ := r1
          cases h
          exact ⟨m, t, rfl, rfl⟩
        | succ j => exact ih r2 h
  obtain ⟨n, t, hn, rfl⟩ := look rv hv'
  have hg : ns.getD i 0 = n := by
    rw [List.getD_eq_getElem?_getD, hn]
    rfl
  have hq2 : Q (ns.getD i 0 != 0) s := hq
  rw [hg] at hq2
  exact PyProof.Rows.truthy_int hq2
theorem any_ints : ∀ ns : List Int, ((List.range ns.length).any fun i => ns.getD i 0 != 0) = ns.any fun n => n != 0
  | [] => rfl
  | n :: ns => by
    rw [List.length_cons, List.range_succ_eq_map, List.any_cons, List.any_map, List.any_cons, ← any_ints ns]
    all_goals rfl
section
variable {X : Cx}
def rAnyI (K : PySem.W.Frag) : List V → Hp → VK → Prop := fun vs H Q => ∃ (a : Addr) (ns : List Int), vs = [V.ref a] ∧ Sq K H a (ns.map V.int) ∧ Q (.bl (ns.any fun n => n != 0)) H
theorem cr_anyI (calm : X.calm = true) : CallR X (.builtin "any") (rAnyI X.K) := by
  intro pn s σ H vs us Q J r h
  obtain ⟨a, ns, rfl, hs, q⟩ := h
  rw [Vals.ref1 r]
  rcases hs with hs | hs
  · obtain ⟨its, rv, hl, _⟩ := J.list hs
    have lv := rv.length
    refine call_any_walk (iter_any hl.isList fun s2 e2 st hne => ?_)
    subst e2
    refine ⟨_, _, _, _, _, _, _, rfl, Walks.list (A := X.A.in1) (J.ok.hd calm) _ a hne its.toArray, st, truths rv, fun h2 tk hk => ?_⟩
    refine ⟨.bl _, H, J.kept fun b o eo => hk b o (fun mem => ?_) (Heap.get?_push_of_some _ eo), ?_, q⟩
    · rcases List.mem_cons.mp mem with e1 | mem
      · exact absurd (e1 ▸ Heap.lt_size eo) (Nat.lt_irrefl _)
      · cases mem
    · rw [List.size_toArray, ← lv, List.length_map, any_ints]
      rfl
  · obtain ⟨its, rv, hl, _⟩ := J.tuple hs
    have lv := rv.length
    obtain ⟨o1, ho1, hc1, n1, hd1⟩ := hl
    have hT : s.heap.IsTuple a its.toArray := ⟨o1, ho1, hc1, n1, hd1⟩
    have hlt : a < s.heap.objs.size := Heap.lt_size ho1
    refine call_any_walk (wpAny_pyIter_tuple hT ?_)
    refine ⟨_, _, _, _, _, _, _, rfl, Walks.tuple (A := X.A.in1) (J.ok.hd calm) _ a (Nat.ne_of_lt hlt) its.toArray, ⟨⟨_, Heap.get?_push_size _ rfl, rfl, rfl⟩, hT.push _⟩, truths rv, fun h2 tk hk => ?_⟩
    refine ⟨.bl _, H, J.kept fun b o eo => hk b o (fun mem => ?_) (Heap.get?_push_of_some _ eo), ?_, q⟩
    · rcases List.mem_cons.mp mem with e1 | mem
      · exact absurd (e1 ▸ Heap.lt_size eo) (Nat.lt_irrefl _)
      · cases mem
    · rw [List.size_toArray, ← lv, List.length_map, any_ints]
      rfl
end
end G0

namespace G0
open PySem PySem.Spec PyProof.Rows L2
def top (i : Nat) : Stmt := PySem.Challenge.pw_pointrows_k22_whole_spots_kept.main.body.getD i (.Pass ⟨0, 0, 0, 0⟩)
abbrev s_is_integer : Stmt := top 2
abbrev s_is_list : Stmt := top 4
abbrev s_divisor : Stmt := top 17
abbrev s_plain : Stmt := top 18
abbrev s_is_three : Stmt := top 20
abbrev s_is_point : Stmt := top 25
abbrev s_told_point : Stmt := top 26

/-- a def of the top: where it stands, that its name tells it, how it binds -/
structure Df (K : PySem.W.Frag) (mg : Str → Option Value) (x : Str) (st : Stmt) (ps : List Str) (f : Addr) (fd : FuncData) : Prop where
  F : Fun K x x st f fd
  g : mg x = some (.ref f)
  b : Binds K fd ps []
theorem pdf {X : Cx} {k : Nat} {f : Addr} {fd : FuncData} {ps : List Str} {sp : Sp} {x : Str} {st : Stmt} {p pos : Pos} {e : Expr} {es : List Expr} {t : TA} (D : Df X.K X.mg x st ps f fd) (G : FnOk X.prog X.w X.K X.mg X.base CX0 k f fd ps sp) (hr : Room k X.A) (ha : PA X (e :: es) t) (hg : Gl X x := by rfl)
    (hdb : (x == ("__debug__" : Str)) = false := by decide) (he : starEach (e :: es) X.env = (false, eval e X.env) :: starEach es X.env := by rfl) (hpl : (backTo pos (starEach es X.env)).any (·.1) = false := by rfl) :
    PE X (.Call (.Name x p) (e :: es) [] pos) (tCall sp [] E0 t) := pe_call G hr hg D.g D.F.kp D.b .nil pass0 ha hdb he hpl
/-- the built-in names are the built-in ones still -/
structure Blt (mg : Str → Option Value) : Prop where
  isinstance : mg "isinstance" = none
  int : mg "int" = none
  bool : mg "bool" = none
  list : mg "list" = none
  tuple : mg "tuple" = none
  len : mg "len" = none
  all : mg "all" = none
  any : mg "any" = none
  abs : mg "abs" = none
  max : mg "max" = none
  min : mg "min" = none
  divmod : mg "divmod" = none
  range : mg "range" = none
  repr : mg "repr" = none
  enumerate : mg "enumerate" = none

section
variable {P : Program} {w : World} {K : PySem.W.Frag} {mg : Str → Option Value} {base : Heap}
theorem pty {X : Cx} {x : Str} {p : Pos} {n : String} (hm : X.mg x = none) (hv : bootBuiltins x = some (.type n)) (hg : Gl X x := by rfl) (hn : x ≠ "__name__" := by decide) (hdb : (x == ("__debug__" : Str)) = false := by decide) : PE X (.Name x p) (tC (.ty n)) :=
  pe_bltn hg hm hv (show RelV (.ty n) (.type n) from rfl) hn hdb
theorem boot_isi : bootBuiltins "isinstance" = some (.builtin "isinstance") := by decide +kernel
theorem boot_tint : bootBuiltins "int" = some (.type "int") := by decide +kernel
theorem boot_tbool : bootBuiltins "bool" = some (.type "bool") := by decide +kernel
theorem boot_tlist : bootBuiltins "list" = some (.type "list") := by decide +kernel
theorem boot_ttuple : bootBuiltins "tuple" = some (.type "tuple") := by decide +kernel
theorem boot_all : bootBuiltins "all" = some (.builtin "all") := by decide +kernel
theorem boot_any : bootBuiltins "any" = some (.builtin "any") := by decide +kernel
theorem kit_ii : PySem.W.kitOne K (.type "int") (.type "int") = some true := kit_ty (by decide +kernel)
theorem kit_ib : PySem.W.kitOne K (.type "int") (.type "bool") = some false := kit_ty (by decide +kernel)
theorem kit_ll : PySem.W.kitOne K (.type "list") (.type "list") = some true := kit_ty (by decide +kernel)
theorem kit_tl : PySem.W.kitOne K (.type "tuple") (.type "list") = some false := kit_ty (by decide +kernel)
theorem kit_tt : PySem.W.kitOne K (.type "tuple") (.type "tuple") = some true := kit_ty (by decide +kernel)

/-! is_integer of an int -/
def sp_is_integer : Sp := fun vs H Q _ => ∃ n : Int, vs = [.int n] ∧ Q (.bl true) H
theorem sc_is_integer : FnScope ["value"] ["value"] (defScope s_is_integer) := ⟨rfl, rfl, rfl, by decide +kernel, rfl, by decide +kernel, by decide +kernel⟩
theorem ok_is_integer {f : Addr} {fd : FuncData} (F : Fun K "is_integer" "is_integer" s_is_integer f fd) (B : Blt mg) : FnOk P w K mg base CX0 1 f fd ["value"] sp_is_integer := by
  refine F.ok sc_is_integer (fun vs H Q E h => ?_) (fun cdv A outer s H vs Q E hr h => ?_)
  · obtain ⟨n, rfl, _⟩ := h
    rfl
  · obtain ⟨n, rfl, q⟩ := h
    refine ⟨_, pss_one (ps_ret (pe_and (pe_callB call_isi (by rfl) B.isinstance boot_isi (pa_cons (pv 0) (pa_cons (pty B.int boot_tint) pa_nil)))
      (pe_one (pe_not (pe_callB call_isi (by rfl) B.isinstance boot_isi (pa_cons (pv 0) (pa_cons (pty B.bool boot_tbool) pa_nil))))))), ?_⟩
    refine ⟨_, rfl, _, _, _, _, true, rfl, .ty "int", .base (.int n), kit_ii, true, rfl, iteT ?_⟩
    exact ⟨_, rfl, _, _, _, _, false, rfl, .ty "bool", .base (.int n), kit_ib, false, rfl, q⟩

/-! is_list of a list or a tuple -/
def sp_is_list (K : PySem.W.Frag) : Sp := fun vs H Q _ => ∃ (a : Addr) (xs : List V), vs = [.ref a] ∧ Sq K H a xs ∧ ∀ H', Same H H' → Q (.bl true) H'
theorem sc_is_list : FnScope ["value"] ["value"] (defScope s_is_list) := ⟨rfl, rfl, rfl, by decide +kernel, rfl, by decide +kernel, by decide +kernel⟩
theorem ok_is_list {f : Addr} {fd : FuncData} (F : Fun K "is_list" "is_list" s_is_list f fd) (B : Blt mg) : FnOk P w K mg base CX0 1 f fd ["value"] (sp_is_list K) := by
  refine F.ok sc_is_list (fun vs H Q E h => ?_) (fun cdv A outer s H vs Q E hr h => ?_)
  · obtain ⟨a, xs, rfl, _⟩ := h
    rfl
  · obtain ⟨a, xs, rfl, hs, q⟩ := h
    refine ⟨_, pss_one (ps_ret (pe_callB call_isiT (by rfl) B.isinstance boot_isi (pa_cons (pv 0) (pa_cons (pe_tup (pa_cons (pty B.list boot_tlist) (pa_cons (pty B.tuple boot_ttuple) pa_nil))) pa_nil)))), ?_⟩
    refine ⟨_, rfl, by show 2 ≤ sizeLine; decide, fun p hp => ?_⟩
    have s1 : Same H (upd H p (.tup [.ty "list", .ty "tuple"])) := same_new hp
    have q1 := q _ s1
    rcases hs with hs | hs
    · exact ⟨_, p, _, _, _, true, rfl, upd_same, .cons (.ty "list") (.cons (.ty "tuple") .nil), ty_l (s1.seq hs), kitAny_cons kit_ll (fun z => nomatch z) fun _ => rfl, q1⟩
    · exact ⟨_, p, _, _, _, true, rfl, upd_same, .cons (.ty "list") (.cons (.ty "tuple") .nil), ty_t (same_t s1 hs), kitAny_cons (r := true) kit_tl (fun _ => kitAny_cons kit_tt (fun z => nomatch z) fun _ => rfl) (fun z => nomatch z), q1⟩

/-! is_three of three ints -/
def sp_is_three (K : PySem.W.Frag) : Sp := fun vs H Q _ => ∃ (p : Addr) (a b c : Int), vs = [.ref p] ∧ Sq K H p ([a, b, c].map V.int) ∧ ∀ H', Same H H' → Q (.bl true) H'
theorem sc_is_three : FnScope ["value", "number"] ["value"] (defScope s_is_three) := ⟨rfl, rfl, rfl, by decide +kernel, rfl, by decide +kernel, by decide +kernel⟩
theorem ok_is_three {f f1 f2 : Addr} {fd fd1 fd2 : FuncData} (F : Fun K "is_three" "is_three" s_is_three f fd) (B : Blt mg) (D1 : Df K mg "is_integer" s_is_integer ["value"] f1 fd1) (D2 : Df K mg "is_list" s_is_list ["value"] f2 fd2) :
    FnOk P w K mg base CX0 2 f fd ["value"] (sp_is_three K) := by
  have G1 : FnOk P w K mg base CX0 1 f1 fd1 ["value"] sp_is_integer := ok_is_integer D1.F B
  have G2 : FnOk P w K mg base CX0 1 f2 fd2 ["value"] (sp_is_list K) := ok_is_list D2.F B
  refine F.ok sc_is_three (fun vs H Q E h => ?_) (fun cdv A outer s H vs Q E hr h => ?_)
  · obtain ⟨p, a, b, c, rfl, _⟩ := h
    rfl
  · obtain ⟨p, a, b, c, rfl, hs, q⟩ := h
    have turn : ∀ x, x ∈ [V.int a, V.int b, V.int c] → ∀ H1 : Hp, Turn1 (gName 1) tYes (tCall sp_is_integer [] E0 (tCons (tVar 1) tNil)) [1] [some (.ref p), none] (fun _ => some (.bl true)) x H1 := by
      intro x hx H1 G N h1 h2
      have hi : ∃ n, x = .int n := by
        simp only [List.mem_cons, List.not_mem_nil, or_false] at hx
        rcases hx with rfl | rfl | rfl <;> exact ⟨_, rfl⟩
      obtain ⟨n, rfl⟩ := hi
      refine ⟨rfl, iteT (B := N H1) ?_⟩
      exact ⟨_, rfl, n, rfl, h2 _ rfl _ (Same.refl _)⟩
    rcases hs with hs | hs
    · refine ⟨_, pss_one (ps_ret (pe_and (pdf D2 G2 hr (pa_cons (pv 0) pa_nil)) (pe_and (pe_cmpR op_eq (pe_callB call_len_seq (by rfl) B.len PySem.boot_len (pa_cons (pv 0) pa_nil)) pe_int (nomark _))
        (pe_one (pe_callB (cr_all rfl) (by rfl) B.all boot_all (pa_cons (pe_lc (own := [("number", 1)]) (g := gName 1) (tt := tYes) rfl sc_is_three.nd (pi_list (pv 0)) (blkOk_by (N := ["value", "number"]) (sc := defScope s_is_three) (by decide +kernel)) (fun _ _ _ _ _ => pg_name (i := 1) sc_is_three.nd rfl (Or.inl rfl))
          (fun _ _ _ _ _ => pts_nil) (fun _ _ _ _ _ => pdf D1 G1 hr (pa_cons (pv 1) pa_nil))) pa_nil)))))), ?_⟩
      refine ⟨_, rfl, p, _, rfl, .inl hs, fun H1 s1 => ⟨true, rfl, iteT ?_⟩⟩
      refine ⟨_, rfl, p, _, rfl, .inl (s1.seq hs), rfl, true, rfl, iteT ?_⟩
      refine ⟨_, rfl, p, rfl, ⟨_, s1.seq hs⟩, fun D hD => lcL (fun _ => some (.bl true)) (s1.seq hs) (by show 3 < sizeLine; decide) hD (fun x hx H2 _ => turn x hx H2) fun H2 s2 h2 => ?_⟩
      exact ⟨D, [true, true, true], rfl, SqL.mk h2, q _ (s1.trans s2)⟩
    · refine ⟨_, pss_one (ps_ret (pe_and (pdf D2 G2 hr (pa_cons (pv 0) pa_nil)) (pe_and (pe_cmpR op_eq (pe_callB call_len_seq (by rfl) B.len PySem.boot_len (pa_cons (pv 0) pa_nil)) pe_int (nomark _))
        (pe_one (pe_callB (cr_all rfl) (by rfl) B.all boot_all (pa_cons (pe_lc (own := [("number", 1)]) (g := gName 1) (tt := tYes) rfl sc_is_three.nd (pi_tup (pv 0)) (blkOk_by (N := ["value", "number"]) (sc := defScope s_is_three) (by decide +kernel)) (fun _ _ _ _ _ => pg_name (i := 1) sc_is_three.nd rfl (Or.inl rfl))
          (fun _ _ _ _ _ => pts_nil) (fun _ _ _ _ _ => pdf D1 G1 hr (pa_cons (pv 1) pa_nil))) pa_nil)))))), ?_⟩
      refine ⟨_, rfl, p, _, rfl, .inr hs, fun H1 s1 => ⟨true, rfl, iteT ?_⟩⟩
      refine ⟨_, rfl, p, _, rfl, .inr (same_t s1 hs), rfl, true, rfl, iteT ?_⟩
      refine ⟨_, rfl, p, rfl, ⟨_, same_t s1 hs⟩, fun D hD => lcT (fun _ => some (.bl true)) (same_t s1 hs) (by show 3 < sizeLine; decide) hD (fun x hx H2 _ => turn x hx H2) fun H2 s2 h2 => ?_⟩
      exact ⟨D, [true, true, true], rfl, SqL.mk h2, q _ (s1.trans s2)⟩
end
end G0

namespace G0
open PySem PySem.Spec PyProof.Rows L2
/-! ### the mathematics of told points -/
def gcdL (ns : List Int) : Int := ns.foldl (fun c n => ((Nat.gcd c.natAbs n.natAbs : Nat) : Int)) 0
def firstN (ns : List Int) : Int := (ns.filter fun n => decide (n ≠ 0)).headD 0
def signed (ns : List Int) : Int := if firstN ns < 0 then -gcdL ns else gcdL ns
def plainI (ns : List Int) : List Int := ns.map fun n => n.fdiv (signed ns)
theorem gcd_fold : ∀ (ns : List Int) (c : Int), 0 ≤ c → 0 ≤ ns.foldl (fun c n => ((Nat.gcd c.natAbs n.natAbs : Nat) : Int)) c ∧ (ns.foldl (fun c n => ((Nat.gcd c.natAbs n.natAbs : Nat) : Int)) c ∣ c) ∧ ∀ n ∈ ns, ns.foldl (fun c n => ((Nat.gcd c.natAbs n.natAbs : Nat) : Int)) c ∣ n
  | [], c, h => ⟨h, Int.dvd_refl c, fun _ z => nomatch z⟩
  | m :: ns, c, h => by
    obtain ⟨h1, h2, h3⟩ := gcd_fold ns ((Nat.gcd c.natAbs m.natAbs : Nat) : Int) (Int.natCast_nonneg _)
    have a1 : ((Nat.gcd c.natAbs m.natAbs : Nat) : Int) ∣ c := Int.ofNat_dvd_left.mpr (Nat.gcd_dvd_left _ _)
    have a2 : ((Nat.gcd c.natAbs m.natAbs : Nat) : Int) ∣ m := Int.ofNat_dvd_left.mpr (Nat.gcd_dvd_right _ _)
    refine ⟨h1, Int.dvd_trans h2 a1, fun n hn => ?_⟩
    rcases List.mem_cons.mp hn with rfl | hn
    · exact Int.dvd_trans h2 a2
    · exact h3 n hn
theorem gcdL_nonneg (ns : List Int) : 0 ≤ gcdL ns := (gcd_fold ns 0 (Int.le_refl _)).1
theorem gcdL_dvd {ns : List Int} {n : Int} (h : n ∈ ns) : gcdL ns ∣ n := (gcd_fold ns 0 (Int.le_refl _)).2.2 n h
theorem gcdL_pos {ns : List Int} (h : ∃ n ∈ ns, n ≠ 0) : 0 < gcdL ns := by
  obtain ⟨n, hn, h0⟩ := h
  have d := gcdL_dvd hn
  have p := gcdL_nonneg ns
  have ne : gcdL ns ≠ 0 := fun e => h0 (by rw [e] at d; exact Int.zero_dvd.mp d)
  omega
theorem gcdL_le {ns : List Int} {n : Int} (h : n ∈ ns) (h0 : n ≠ 0) : (gcdL ns).natAbs ≤ n.natAbs := Nat.le_of_dvd (Int.natAbs_pos.mpr h0) (Int.natAbs_dvd_natAbs.mpr (gcdL_dvd h))
theorem gcdL_take {ns : List Int} {i : Nat} {n : Int} (h : ns[i]? = some n) : gcdL (ns.take (i + 1)) = ((Nat.gcd (gcdL (ns.take i)).natAbs n.natAbs : Nat) : Int) := by
  unfold gcdL
  rw [List.take_add_one, h, List.foldl_append]
  rfl

abbrev at_int {ns : List Int} {i : Nat} {x : V} (h : (ns.map V.int)[i]? = some x) : ∃ n, ns[i]? = some n ∧ x = .int n := by
  rw [List.getElem?_map] at h
  cases e : ns[i]? with
  | none =>
    rw [e] at h
    cases h
  | some n =>
    rw [e] at h
    exact ⟨n, rfl, (Option.some.inj h).symm⟩
theorem mem_int {ns : List Int} {x : V} (h : x ∈ ns.map V.int) : ∃ n, n ∈ ns ∧ x = .int n := by
  obtain ⟨n, hn, e⟩ := List.mem_map.mp h
  exact ⟨n, hn, e.symm⟩
theorem fm_ints {F : V → Option V} {f : Int → Option Int} (h : ∀ n : Int, F (.int n) = (f n).map V.int) : ∀ ns : List Int, fm F (ns.map V.int) = (ns.filterMap f).map V.int
  | [] => rfl
  | n :: ns => by
    have ih := fm_ints h ns
    show (V.int n :: ns.map V.int).filterMap F = _
    unfold fm at ih
    rw [List.filterMap_cons, h n, List.filterMap_cons]
    cases f n with
    | none => exact ih
    | some m =>
      show V.int m :: _ = V.int m :: _
      rw [ih]
section
variable {P : Program} {w : World} {K : PySem.W.Frag} {mg : Str → Option Value} {base : Heap}
/-! divisor -/
def sp_divisor (K : PySem.W.Frag) : Sp := fun vs H Q _ => ∃ (p : Addr) (ns : List Int), vs = [.ref p] ∧ Sq K H p (ns.map V.int) ∧ Q (.int (gcdL ns)) H
theorem sc_divisor : FnScope ["numbers", "common", "number"] ["numbers"] (defScope s_divisor) := ⟨rfl, rfl, rfl, by decide +kernel, rfl, by decide +kernel, by decide +kernel⟩
theorem ok_divisor {f : Addr} {fd : FuncData} (F : Fun K "divisor" "divisor" s_divisor f fd) (hG : mg "gcd" = some (.builtin "math.gcd")) : FnOk P w K mg base CX0 1 f fd ["numbers"] (sp_divisor K) := by
  refine F.ok sc_divisor (fun vs H Q E h => ?_) (fun cdv A outer s H vs Q E hr h => ?_)
  · obtain ⟨p, ns, rfl, _⟩ := h
    rfl
  · obtain ⟨p, ns, rfl, hs, q⟩ := h
    have step : ∀ (i : Nat) (x : V) (σ : L2.St) (H1 : Hp) (N : L2.St → Hp → Prop), (ns.map V.int)[i]? = some x → (∃ y, σ = [some (.ref p), some (.int (gcdL (ns.take i))), y] ∧ H1 = H) → (∀ σ2 H2, (∃ y, σ2 = [some (.ref p), some (.int (gcdL (ns.take (i + 1)))), y] ∧ H2 = H) → N σ2 H2) →
        gName 2 x σ H1 fun σ2 H2 => (tCB rGcd (tCons (tVar 1) (tCons (tVar 2) tNil))) σ2 H2 fun v H3 => N (σ2.set 1 (some v)) H3 := by
      rintro i x σ H1 N hx ⟨y, rfl, rfl⟩ k
      obtain ⟨n, hn, rfl⟩ := at_int hx
      refine ⟨_, rfl, _, rfl, _, _, rfl, k _ _ ⟨some (.int n), ?_, rfl⟩⟩
      rw [gcdL_take hn]
      rfl
    rcases hs with hs | hs
    · refine ⟨_, pss_cons (ps_set (i := 1) sc_divisor.nd rfl (Or.inl rfl) pe_int) (pss_cons (ps_for PassesOwn.never rfl (pi_list (pv 0)) (pg_name (i := 2) sc_divisor.nd rfl (Or.inl rfl))
        (pss_one (ps_set (i := 1) sc_divisor.nd rfl (Or.inl rfl) (pe_callBfun cr_gcd (by rfl) hG (pa_cons (pv 1) (pa_cons (pv 2) pa_nil)))))) (pss_one (ps_ret (pv 1)))), ?_⟩
      refine ⟨_, rfl, p, rfl, ⟨_, hs⟩, for_list (K := K) (a := p) (xs := ns.map V.int) (fun i σ H1 => ∃ y, σ = [some (.ref p), some (.int (gcdL (ns.take i))), y] ∧ H1 = H) ⟨none, rfl, rfl⟩ ?_ ?_ ?_⟩
      · rintro i σ H1 _ ⟨y, rfl, rfl⟩
        exact hs
      · intro i x σ H1 hx h
        exact step i x σ H1 _ hx h fun σ2 H2 h2 => h2
      · rintro σ H1 ⟨y, rfl, rfl⟩
        rw [List.length_map, List.take_length]
        exact ⟨_, rfl, q⟩
    · refine ⟨_, pss_cons (ps_set (i := 1) sc_divisor.nd rfl (Or.inl rfl) pe_int) (pss_cons (ps_for PassesOwn.never rfl (pi_tup (pv 0)) (pg_name (i := 2) sc_divisor.nd rfl (Or.inl rfl))
        (pss_one (ps_set (i := 1) sc_divisor.nd rfl (Or.inl rfl) (pe_callBfun cr_gcd (by rfl) hG (pa_cons (pv 1) (pa_cons (pv 2) pa_nil)))))) (pss_one (ps_ret (pv 1)))), ?_⟩
      refine ⟨_, rfl, p, rfl, ⟨_, hs⟩, for_tup (K := K) (a := p) (xs := ns.map V.int) (fun i σ H1 => ∃ y, σ = [some (.ref p), some (.int (gcdL (ns.take i))), y] ∧ H1 = H) ⟨none, rfl, rfl⟩ ?_ ?_ ?_⟩
      · rintro i σ H1 _ ⟨y, rfl, rfl⟩
        exact hs
      · intro i x σ H1 hx h
        exact step i x σ H1 _ hx h fun σ2 H2 h2 => h2
      · rintro σ H1 ⟨y, rfl, rfl⟩
        rw [List.length_map, List.take_length]
        exact ⟨_, rfl, q⟩
end
end G0

namespace G0
open PySem PySem.Spec PyProof.Rows L2
section
variable {P : Program} {w : World} {K : PySem.W.Frag} {mg : Str → Option Value} {base : Heap}
/-! plain -/
def nz (ns : List Int) : List Int := ns.filter fun n => decide (n ≠ 0)
theorem nz_fm (ns : List Int) : (ns.filterMap fun n => if n ≠ 0 then some n else none) = nz ns := by
  unfold nz
  induction ns with
  | nil => rfl
  | cons n ns ih =>
    by_cases h : n = 0
    · subst h
      rw [List.filterMap_cons, if_neg (by simp), List.filter_cons_of_neg (by simp)]
      exact ih
    · rw [List.filterMap_cons, if_pos h, List.filter_cons_of_pos (by simpa using h)]
      show n :: _ = n :: _
      rw [ih]
theorem nz_head {ns : List Int} (h : ∃ n ∈ ns, n ≠ 0) : (nz ns)[0]? = some (firstN ns) ∧ firstN ns ∈ ns ∧ firstN ns ≠ 0 := by
  obtain ⟨n, hn, h0⟩ := h
  have hm : n ∈ nz ns := List.mem_filter.mpr ⟨hn, by simpa using h0⟩
  unfold firstN
  show (nz ns)[0]? = some ((nz ns).headD 0) ∧ (nz ns).headD 0 ∈ ns ∧ (nz ns).headD 0 ≠ 0
  cases e : nz ns with
  | nil =>
    rw [e] at hm
    cases hm
  | cons m r =>
    have hm2 : m ∈ nz ns := by
      rw [e]
      exact List.mem_cons_self
    obtain ⟨a1, a2⟩ := List.mem_filter.mp hm2
    exact ⟨rfl, a1, by simpa using a2⟩
theorem fmap_some {α β : Type} (f : α → β) : ∀ xs : List α, (xs.filterMap fun x => some (f x)) = xs.map f
  | [] => rfl
  | x :: xs => by
    rw [List.filterMap_cons]
    show f x :: _ = f x :: _
    rw [fmap_some f xs]
theorem signed_le {ns : List Int} (h : ∃ n ∈ ns, n ≠ 0) (hb : ∀ n ∈ ns, n.natAbs < 2 ^ 30) : signed ns ≠ 0 ∧ (signed ns).natAbs < 1073741824 := by
  have p := gcdL_pos h
  obtain ⟨n, hn, h0⟩ := h
  have l := gcdL_le hn h0
  have b := hb n hn
  have e30 : (2 : Nat) ^ 30 = 1073741824 := rfl
  unfold signed
  split <;> omega
def sp_plain (K : PySem.W.Frag) : Sp := fun vs H Q _ => ∃ (p : Addr) (ns : List Int), vs = [.ref p] ∧ Sq K H p (ns.map V.int) ∧ (∃ n ∈ ns, n ≠ 0) ∧ (∀ n ∈ ns, n.natAbs < 2 ^ 30) ∧ ns.length ≤ 1000 ∧
  ∀ H' q, Same H H' → H q = none → H' q = some (.lst ((plainI ns).map V.int)) → Q (.ref q) H'
theorem sc_plain : FnScope ["numbers", "common", "first", "number"] ["numbers"] (defScope s_plain) := ⟨rfl, rfl, rfl, by decide +kernel, rfl, by decide +kernel, by decide +kernel⟩
theorem ok_plain {f f1 : Addr} {fd fd1 : FuncData} (F : Fun K "plain" "plain" s_plain f fd) (hG : mg "gcd" = some (.builtin "math.gcd")) (D1 : Df K mg "divisor" s_divisor ["numbers"] f1 fd1) : FnOk P w K mg base CX0 2 f fd ["numbers"] (sp_plain K) := by
  have G1 : FnOk P w K mg base CX0 1 f1 fd1 ["numbers"] (sp_divisor K) := ok_divisor D1.F hG
  refine F.ok sc_plain (fun vs H Q E h => ?_) (fun cdv A outer s H vs Q E hr h => ?_)
  · obtain ⟨p, ns, rfl, _⟩ := h
    rfl
  · obtain ⟨p, ns, rfl, hs, hz, hb, hl, q⟩ := h
    have hlen : (ns.map V.int).length < sizeLine := by
      rw [List.length_map]
      exact Nat.lt_of_le_of_lt hl (by decide)
    obtain ⟨hh, hmem, hne⟩ := nz_head hz
    obtain ⟨c0, cb⟩ := signed_le hz hb
    let FN : V → Option V := fun x => match x with | .int n => if n ≠ 0 then some (.int n) else none | _ => none
    let FD : V → Option V := fun x => match x with | .int n => some (.int (n.fdiv (signed ns))) | _ => none
    have fd : fm FD (ns.map V.int) = (plainI ns).map V.int := by
      rw [fm_ints (f := fun n => some (n.fdiv (signed ns))) (fun _ => rfl), fmap_some]
      rfl
    have at0 : atI (fm FN (ns.map V.int)) 0 = some (.int (firstN ns)) := by
      rw [fm_ints (f := fun n => if n ≠ 0 then some n else none) (fun n => by by_cases h0 : n = 0 <;> simp [FN, h0]), nz_fm]
      refine atI_nat (j := 0) ?_
      rw [List.getElem?_map, hh]
      rfl
    have t1 : ∀ x, x ∈ ns.map V.int → ∀ H1 : Hp, Turn1 (gName 3) (tTest (tOp rNe (tVar 3) (tC (.int 0)))) (tVar 3) [3] [some (.ref p), some (.int (gcdL ns)), none, none] FN x H1 := by
      intro x hx H1 G N g1 g2
      obtain ⟨n, hn, rfl⟩ := mem_int hx
      refine ⟨rfl, ?_⟩
      refine ⟨_, rfl, rfl, _, rfl, ?_⟩
      by_cases h0 : n = 0
      · subst h0
        exact g1 (by simp [FN]) _ (Same.refl _)
      · have hd : (!decide (V.int n = V.int 0)) = true := by simp [h0]
        rw [hd]
        exact iteT ⟨_, rfl, g2 _ (by simp [FN, h0]) _ (Same.refl _)⟩
    have t2 : ∀ c : Int, signed ns = c → ∀ x, x ∈ ns.map V.int → ∀ H1 : Hp, Turn1 (gName 3) tYes (tOp (rI CDivN fun i j => .int (i.fdiv j)) (tVar 3) (tVar 1)) [3] [some (.ref p), some (.int c), some (.int (firstN ns)), none] FD x H1 := by
      intro c hc x hx H1 G N g1 g2
      obtain ⟨n, hn, rfl⟩ := mem_int hx
      refine ⟨rfl, iteT (B := N H1) ?_⟩
      exact ⟨_, rfl, _, rfl, _, _, rfl, rfl, by rw [← hc]; exact ⟨c0, cb⟩, g2 _ (by simp [FD, hc]) _ (Same.refl _)⟩
    rcases hs with hs | hs
    · refine ⟨_, pss_cons (ps_set (i := 1) sc_plain.nd rfl (Or.inr rfl) (pdf D1 G1 hr (pa_cons (pv 0) pa_nil)))
        (pss_cons (ps_set (i := 2) sc_plain.nd rfl (Or.inl rfl) (pe_ix ix_list (pe_lc (own := [("number", 3)]) (g := gName 3) rfl sc_plain.nd (pi_list (pv 0)) (blkOk_by (N := ["numbers", "common", "first", "number"]) (sc := defScope s_plain) (by decide +kernel)) (fun _ _ _ _ _ => pg_name (i := 3) sc_plain.nd rfl (Or.inl rfl))
          (fun _ _ _ _ _ => pts_one (pt_cmpR op_ne (pv 3) pe_int (nomark _))) (fun _ _ _ _ _ => pv 3)) pe_int (fun _ _ => rfl)))
        (pss_cons (ps_if (pt_cmpR op_lt (pv 2) pe_int (nomark _)) (pss_one (ps_set (i := 1) sc_plain.nd rfl (Or.inr rfl) (pe_un un_neg (pv 1)))) pss_nil)
        (pss_one (ps_ret (pe_lc (own := [("number", 3)]) (g := gName 3) (tt := tYes) rfl sc_plain.nd (pi_list (pv 0)) (blkOk_by (N := ["numbers", "common", "first", "number"]) (sc := defScope s_plain) (by decide +kernel)) (fun _ _ _ _ _ => pg_name (i := 3) sc_plain.nd rfl (Or.inl rfl))
          (fun _ _ _ _ _ => pts_nil) (fun _ _ _ _ _ => pe_op op_fdivN (pv 3) (pv 1))))))), ?_⟩
      refine ⟨_, rfl, p, ns, rfl, .inl hs, ?_⟩
      refine ⟨_, rfl, p, rfl, ⟨_, hs⟩, fun D hD => lcL FN hs hlen hD (fun x hx H1 _ => t1 x hx H1) fun H1 s1 h1 => ?_⟩
      refine ⟨D, _, 0, _, rfl, rfl, SqL.mk h1, at0, ?_⟩
      refine ⟨_, rfl, _, _, rfl, rfl, _, rfl, ?_⟩
      have hs1 := s1.seq hs
      refine ite2 (fun e => ?_) (fun e => ?_)
      · have e2 : firstN ns < 0 := of_decide_eq_true e
        refine ⟨_, rfl, _, rfl, ?_⟩
        refine ⟨_, rfl, p, rfl, ⟨_, hs1⟩, fun D2 hD2 => lcL FD hs1 hlen hD2 (fun x hx H2 _ => t2 (-gcdL ns) (by unfold signed; rw [if_pos e2]) x hx H2) fun H2 s2 h2 => q H2 D2 (s1.trans s2) (s1.free hD2) (by rw [h2, fd])⟩
      · have e2 : ¬ firstN ns < 0 := fun z => e (decide_eq_true z)
        refine ⟨_, rfl, p, rfl, ⟨_, hs1⟩, fun D2 hD2 => lcL FD hs1 hlen hD2 (fun x hx H2 _ => t2 (gcdL ns) (by unfold signed; rw [if_neg e2]) x hx H2) fun H2 s2 h2 => q H2 D2 (s1.trans s2) (s1.free hD2) (by rw [h2, fd])⟩
    · refine ⟨_, pss_cons (ps_set (i := 1) sc_plain.nd rfl (Or.inr rfl) (pdf D1 G1 hr (pa_cons (pv 0) pa_nil)))
        (pss_cons (ps_set (i := 2) sc_plain.nd rfl (Or.inl rfl) (pe_ix ix_list (pe_lc (own := [("number", 3)]) (g := gName 3) rfl sc_plain.nd (pi_tup (pv 0)) (blkOk_by (N := ["numbers", "common", "first", "number"]) (sc := defScope s_plain) (by decide +kernel)) (fun _ _ _ _ _ => pg_name (i := 3) sc_plain.nd rfl (Or.inl rfl))
          (fun _ _ _ _ _ => pts_one (pt_cmpR op_ne (pv 3) pe_int (nomark _))) (fun _ _ _ _ _ => pv 3)) pe_int (fun _ _ => rfl)))
        (pss_cons (ps_if (pt_cmpR op_lt (pv 2) pe_int (nomark _)) (pss_one (ps_set (i := 1) sc_plain.nd rfl (Or.inr rfl) (pe_un un_neg (pv 1)))) pss_nil)
        (pss_one (ps_ret (pe_lc (own := [("number", 3)]) (g := gName 3) (tt := tYes) rfl sc_plain.nd (pi_tup (pv 0)) (blkOk_by (N := ["numbers", "common", "first", "number"]) (sc := defScope s_plain) (by decide +kernel)) (fun _ _ _ _ _ => pg_name (i := 3) sc_plain.nd rfl (Or.inl rfl))
          (fun _ _ _ _ _ => pts_nil) (fun _ _ _ _ _ => pe_op op_fdivN (pv 3) (pv 1))))))), ?_⟩
      refine ⟨_, rfl, p, ns, rfl, .inr hs, ?_⟩
      refine ⟨_, rfl, p, rfl, ⟨_, hs⟩, fun D hD => lcT FN hs hlen hD (fun x hx H1 _ => t1 x hx H1) fun H1 s1 h1 => ?_⟩
      refine ⟨D, _, 0, _, rfl, rfl, SqL.mk h1, at0, ?_⟩
      refine ⟨_, rfl, _, _, rfl, rfl, _, rfl, ?_⟩
      have hs1 := same_t s1 hs
      refine ite2 (fun e => ?_) (fun e => ?_)
      · have e2 : firstN ns < 0 := of_decide_eq_true e
        refine ⟨_, rfl, _, rfl, ?_⟩
        refine ⟨_, rfl, p, rfl, ⟨_, hs1⟩, fun D2 hD2 => lcT FD hs1 hlen hD2 (fun x hx H2 _ => t2 (-gcdL ns) (by unfold signed; rw [if_pos e2]) x hx H2) fun H2 s2 h2 => q H2 D2 (s1.trans s2) (s1.free hD2) (by rw [h2, fd])⟩
      · have e2 : ¬ firstN ns < 0 := fun z => e (decide_eq_true z)
        refine ⟨_, rfl, p, rfl, ⟨_, hs1⟩, fun D2 hD2 => lcT FD hs1 hlen hD2 (fun x hx H2 _ => t2 (gcdL ns) (by unfold signed; rw [if_neg e2]) x hx H2) fun H2 s2 h2 => q H2 D2 (s1.trans s2) (s1.free hD2) (by rw [h2, fd])⟩
end
end G0

namespace G0
open PySem PySem.Spec PyProof.Rows L2
section
variable {P : Program} {w : World} {K : PySem.W.Frag} {mg : Str → Option Value} {base : Heap}
/-! is_point of three ints -/
def sp_is_point (K : PySem.W.Frag) : Sp := fun vs H Q _ => ∃ (p : Addr) (a b c : Int), vs = [.ref p] ∧ Sq K H p ([a, b, c].map V.int) ∧ ∀ H', Same H H' → Q (.bl (decide (a ≠ 0) || (decide (b ≠ 0) || (decide (c ≠ 0) || false)))) H'
theorem sc_is_point : FnScope ["value", "number"] ["value"] (defScope s_is_point) := ⟨rfl, rfl, rfl, by decide +kernel, rfl, by decide +kernel, by decide +kernel⟩
theorem ok_is_point {f f1 f2 f3 : Addr} {fd fd1 fd2 fd3 : FuncData} (F : Fun K "is_point" "is_point" s_is_point f fd) (B : Blt mg) (D1 : Df K mg "is_three" s_is_three ["value"] f1 fd1)
    (D2 : Df K mg "is_integer" s_is_integer ["value"] f2 fd2) (D3 : Df K mg "is_list" s_is_list ["value"] f3 fd3) : FnOk P w K mg base CX0 3 f fd ["value"] (sp_is_point K) := by
  have G1 : FnOk P w K mg base CX0 2 f1 fd1 ["value"] (sp_is_three K) := ok_is_three D1.F B D2 D3
  refine F.ok sc_is_point (fun vs H Q E h => ?_) (fun cdv A outer s H vs Q E hr h => ?_)
  · obtain ⟨p, a, b, c, rfl, _⟩ := h
    rfl
  · obtain ⟨p, a, b, c, rfl, hs, q⟩ := h
    let FN : V → Option V := fun x => match x with | .int n => some (.bl (decide (n ≠ 0))) | _ => none
    have t1 : ∀ x, x ∈ [a, b, c].map V.int → ∀ H1 : Hp, Turn1 (gName 1) tYes (tOp rNe (tVar 1) (tC (.int 0))) [1] [some (.ref p), none] FN x H1 := by
      intro x hx H1 G N g1 g2
      obtain ⟨n, hn, rfl⟩ := mem_int hx
      refine ⟨rfl, iteT (B := N H1) ?_⟩
      refine ⟨_, rfl, rfl, g2 _ ?_ _ (Same.refl _)⟩
      show some (V.bl (decide (n ≠ 0))) = some (V.bl (!decide (V.int n = V.int 0)))
      by_cases h0 : n = 0 <;> simp [h0]
    rcases hs with hs | hs
    · refine ⟨_, pss_one (ps_ret (pe_and (pdf D1 G1 hr (pa_cons (pv 0) pa_nil)) (pe_one (pe_callB (cr_any rfl) (by rfl) B.any boot_any (pa_cons (pe_lc (own := [("number", 1)]) (g := gName 1) (tt := tYes) rfl sc_is_point.nd (pi_list (pv 0)) (blkOk_by (N := ["value", "number"]) (sc := defScope s_is_point) (by decide +kernel)) (fun _ _ _ _ _ => pg_name (i := 1) sc_is_point.nd rfl (Or.inl rfl))
        (fun _ _ _ _ _ => pts_nil) (fun _ _ _ _ _ => pe_cmpR op_ne (pv 1) pe_int (nomark _))) pa_nil))))), ?_⟩
      refine ⟨_, rfl, p, a, b, c, rfl, .inl hs, fun H1 s1 => ⟨true, rfl, iteT ?_⟩⟩
      have hs1 := s1.seq hs
      refine ⟨_, rfl, p, rfl, ⟨_, hs1⟩, fun D hD => lcL FN hs1 (by show 3 < sizeLine; decide) hD (fun x hx H2 _ => t1 x hx H2) fun H2 s2 h2 => ?_⟩
      exact ⟨D, [decide (a ≠ 0), decide (b ≠ 0), decide (c ≠ 0)], rfl, SqL.mk h2, q _ (s1.trans s2)⟩
    · refine ⟨_, pss_one (ps_ret (pe_and (pdf D1 G1 hr (pa_cons (pv 0) pa_nil)) (pe_one (pe_callB (cr_any rfl) (by rfl) B.any boot_any (pa_cons (pe_lc (own := [("number", 1)]) (g := gName 1) (tt := tYes) rfl sc_is_point.nd (pi_tup (pv 0)) (blkOk_by (N := ["value", "number"]) (sc := defScope s_is_point) (by decide +kernel)) (fun _ _ _ _ _ => pg_name (i := 1) sc_is_point.nd rfl (Or.inl rfl))
        (fun _ _ _ _ _ => pts_nil) (fun _ _ _ _ _ => pe_cmpR op_ne (pv 1) pe_int (nomark _))) pa_nil))))), ?_⟩
      refine ⟨_, rfl, p, a, b, c, rfl, .inr hs, fun H1 s1 => ⟨true, rfl, iteT ?_⟩⟩
      have hs1 := same_t s1 hs
      refine ⟨_, rfl, p, rfl, ⟨_, hs1⟩, fun D hD => lcT FN hs1 (by show 3 < sizeLine; decide) hD (fun x hx H2 _ => t1 x hx H2) fun H2 s2 h2 => ?_⟩
      exact ⟨D, [decide (a ≠ 0), decide (b ≠ 0), decide (c ≠ 0)], rfl, SqL.mk h2, q _ (s1.trans s2)⟩

/-! told_point of three ints, not all 0 -/
def sp_told_point (K : PySem.W.Frag) : Sp := fun vs H Q _ => ∃ (p : Addr) (a b c : Int), vs = [.ref p] ∧ Sq K H p ([a, b, c].map V.int) ∧ (∃ n ∈ [a, b, c], n ≠ 0) ∧ (∀ n ∈ [a, b, c], n.natAbs < 2 ^ 30) ∧
  ∀ H' q, Same H H' → H q = none → H' q = some (.tup ((plainI [a, b, c]).map V.int)) → Q (.ref q) H'
theorem any_of {a b c : Int} (h : ∃ n ∈ [a, b, c], n ≠ 0) : (decide (a ≠ 0) || (decide (b ≠ 0) || (decide (c ≠ 0) || false))) = true := by
  obtain ⟨n, hn, h0⟩ := h
  simp only [List.mem_cons, List.not_mem_nil, or_false] at hn
  rcases hn with rfl | rfl | rfl <;> simp [h0]
theorem sc_told_point : FnScope ["point"] ["point"] (defScope s_told_point) := ⟨rfl, rfl, rfl, by decide +kernel, rfl, by decide +kernel, by decide +kernel⟩
theorem ok_told_point {f f1 f2 : Addr} {fd fd1 fd2 : FuncData} (F : Fun K "told_point" "told_point" s_told_point f fd) (B : Blt mg) (D1 : Df K mg "is_point" s_is_point ["value"] f1 fd1) (D2 : Df K mg "plain" s_plain ["numbers"] f2 fd2)
    (G1 : FnOk P w K mg base CX0 3 f1 fd1 ["value"] (sp_is_point K)) (G2 : FnOk P w K mg base CX0 2 f2 fd2 ["numbers"] (sp_plain K)) : FnOk P w K mg base CX0 4 f fd ["point"] (sp_told_point K) := by
  refine F.ok sc_told_point (fun vs H Q E h => ?_) (fun cdv A outer s H vs Q E hr h => ?_)
  · obtain ⟨p, a, b, c, rfl, _⟩ := h
    rfl
  · obtain ⟨p, a, b, c, rfl, hs, hz, hb, q⟩ := h
    refine ⟨_, pss_cons (ps_if (pt_not (pt_val (pdf D1 G1 hr (pa_cons (pv 0) pa_nil)))) (pss_one ps_never) pss_nil)
      (pss_one (ps_ret (pe_callTy call_tuple_of (by rfl) B.tuple boot_ttuple (pa_cons (pdf D2 G2 (hr.mono (by decide)) (pa_cons (pv 0) pa_nil)) pa_nil)))), ?_⟩
    refine ⟨_, rfl, p, a, b, c, rfl, hs, fun H1 s1 => ?_⟩
    rw [any_of hz]
    refine ⟨true, rfl, iteF ?_⟩
    refine ⟨_, rfl, p, [a, b, c], rfl, hs.same s1, hz, hb, by show 3 ≤ 1000; decide, fun H2 l s2 nl hl => ?_⟩
    refine ⟨l, _, rfl, .inl ⟨SqL.mk hl, fun t ht => ?_⟩⟩
    exact q _ t ((s1.trans s2).trans (same_new ht)) ((s1.trans s2).free ht) upd_same
end
end G0

namespace G0
open PySem PySem.Spec PyProof.Rows L2
/-! ### walks over a list (true) or a tuple (false): enumerate, zip of two, of three -/
def SqK (b : Bool) (K : PySem.W.Frag) (H : Hp) (a : Addr) (xs : List V) : Prop := match b with | true => SqL K H a xs | false => SqT K H a xs
theorem Sq.kind {K : PySem.W.Frag} {H : Hp} {a : Addr} {xs : List V} (h : Sq K H a xs) : ∃ b, SqK b K H a xs := h.elim (fun h => ⟨true, h⟩) (fun h => ⟨false, h⟩)
theorem SqK.sq {b : Bool} {K : PySem.W.Frag} {H : Hp} {a : Addr} {xs : List V} (h : SqK b K H a xs) : Sq K H a xs := by
  cases b with
  | true => exact .inl h
  | false => exact .inr h
theorem SqK.same {b : Bool} {K : PySem.W.Frag} {H H' : Hp} {a : Addr} {xs : List V} (e : Same H H') (h : SqK b K H a xs) : SqK b K H' a xs := by
  cases b with
  | true => exact e.seq h
  | false => exact same_t e h
def IterK (b : Bool) (h : Heap) (it a : Addr) (i : Nat) : Prop := match b with | true => h.IsListIter it a i | false => h.IsTupleIter it a i
def IsK (b : Bool) (h : Heap) (a : Addr) (items : Array Value) : Prop := match b with | true => h.IsList a items | false => h.IsTuple a items
def iterO (b : Bool) (a : Addr) : Obj := match b with
  | true => { cls := .type "list_iterator", data := .fields #[.ref a, .int 0 0] }
  | false => { cls := .type "tuple_iterator", data := .fields #[.ref a, .int 0 0] }
theorem draw_K {prog : Program} {w : World} {A : Around} (calm : A.handled = none) (b : Bool) (it a : Addr) (ne : a ≠ it) (items : Array Value) :
    Draws prog w A it [it, a] items.size (fun i v => items[i]? = some v) (fun i h => IterK b h it a i ∧ IsK b h a items) := by
  cases b with
  | true => exact Draws.list calm it a ne items
  | false => exact Draws.tuple calm it a ne items
theorem begin_K (b : Bool) (a : Addr) (items : Array Value) : Begins (.ref a) (iterO b a) fun h => IsK b h a items := by
  cases b with
  | true => exact begins_list a items
  | false => exact begins_tuple a items
theorem iter_K {b : Bool} {h : Heap} {it a : Addr} (e : h.get? it = some (iterO b a)) : IterK b h it a 0 := by
  cases b with
  | true => exact ⟨_, e, rfl, rfl⟩
  | false => exact ⟨_, e, rfl, rfl⟩
theorem IterK.obj {b : Bool} {h : Heap} {it a : Addr} {i : Nat} (e : IterK b h it a i) : ∃ o, h.get? it = some o ∧ ∀ v, o.data ≠ .cell v := by
  cases b with
  | true =>
    obtain ⟨o, h1, _, h3⟩ := (show h.IsListIter it a i from e)
    exact ⟨o, h1, fun v q => by rw [h3] at q; cases q⟩
  | false =>
    obtain ⟨o, h1, _, h3⟩ := (show h.IsTupleIter it a i from e)
    exact ⟨o, h1, fun v q => by rw [h3] at q; cases q⟩
theorem IterK.keep {b : Bool} {h h' : Heap} {it a : Addr} {i : Nat} (e : IterK b h it a i) (k : ∀ o, h.get? it = some o → h'.get? it = some o) : IterK b h' it a i := by
  cases b with
  | true =>
    obtain ⟨o, h1, h2, h3⟩ := (show h.IsListIter it a i from e)
    exact ⟨o, k o h1, h2, h3⟩
  | false =>
    obtain ⟨o, h1, h2, h3⟩ := (show h.IsTupleIter it a i from e)
    exact ⟨o, k o h1, h2, h3⟩
section
variable {X : Cx} {pins : List (Addr × Obj)} {σ : L2.St} {H : Hp} {s : Shared}
theorem seq_K {b : Bool} {a : Addr} {xs : List V} (J : Inv X pins σ H s) (h : SqK b X.K H a xs) : ∃ its : List Value, Vals xs its ∧ IsK b s.heap a its.toArray ∧ a < s.heap.objs.size := by
  cases b with
  | true =>
    obtain ⟨its, rv, pl, _⟩ := J.list h
    obtain ⟨o, h1, h2⟩ := pl.isList
    exact ⟨its, rv, pl.isList, Heap.lt_size h1⟩
  | false =>
    obtain ⟨its, rv, ⟨o, h1, h2, n, h3⟩, _⟩ := J.tuple h
    exact ⟨its, rv, ⟨o, h1, h2, n, h3⟩, Heap.lt_size h1⟩
theorem inj_K {b : Bool} {a : Addr} {xs ys : List V} (J : Inv X pins σ H s) (h1 : SqK b X.K H a xs) (h2 : SqK b X.K H a ys) : xs = ys := by
  cases b with
  | true => exact J.list_inj h1 h2
  | false => exact J.tuple_inj h1 h2
/-- the i-th item of what stands at a -/
theorem item_K {b : Bool} {a : Addr} {xs : List V} {its : List Value} {i : Nat} {u : Value} {x : V} (rv : Vals xs its) (hu : its.toArray[i]? = some u) (hx : xs[i]? = some x) : RelV x u := by
  obtain ⟨u', hu', ru⟩ := rv.get hx
  have : its[i]? = some u := by simpa using hu
  rw [this] at hu'
  cases hu'
  exact ru
end
/-- enumerate -/
def ItE (b : Bool) (K : PySem.W.Frag) (a : Addr) : It :=
  ⟨fun i H => ∃ (xs : List V) (x : V), SqK b K H a xs ∧ xs[i]? = some x, fun i H v H' => ∃ T x, v = .ref T ∧ H T = none ∧ H' = upd H T (.tup [.int (i : Nat), x]) ∧ ∀ xs, SqK b K H a xs → xs[i]? = some x, fun i H => ∃ xs : List V, SqK b K H a xs ∧ xs.length = i⟩
theorem turn_E {P : Program} {w : World} {K : PySem.W.Frag} {elts : List Expr} {kk : Nat} {tpos : Pos} (b : Bool) (a e it : Addr) (hae : a ≠ e) (hai : a ≠ it) (hei : e ≠ it) :
    Turn P w K (.Tuple elts kk tpos) (ItE b K a) [e, it] e (fun i h => (∃ old, IsEnum h e it ((i : Nat) : Int) old) ∧ IterK b h it a i) where
  mem := by simp
  obj := fun i h st c mem => by
    obtain ⟨⟨old, he⟩, hi⟩ := st
    rcases List.mem_cons.mp mem with q | mem
    · rw [q]
      exact ⟨_, he, fun v z => nomatch z⟩
    · rw [List.mem_singleton.mp mem]
      exact hi.obj
  keep := fun i h h' st k => by
    obtain ⟨⟨old, he⟩, hi⟩ := st
    exact ⟨⟨old, k e (by simp) _ he⟩, hi.keep (k it (by simp))⟩
  item := by
    rintro X rfl rfl rfl hc i pins s σ H E J hf ⟨⟨old, he⟩, hit⟩ ⟨xs, x, hq, hx⟩
    obtain ⟨its, rv, isK, alt⟩ := seq_K J hq
    have elt : e < s.heap.objs.size := Heap.lt_size he
    have ilt : it < s.heap.objs.size := by
      obtain ⟨_, q, _⟩ := hit.obj
      exact Heap.lt_size q
    have len := rv.length
    have ib : i < its.toArray.size := by
      have := (List.getElem?_eq_some_iff.mp hx).1
      simp
      omega
    refine wpAny_pyNext_enum_itemD (draw_K (A := X.A.in1) (J.ok.hd hc) b it a hai its.toArray) he ⟨hit, isK⟩ ib hei (by simp [hei, hae.symm]) fun u h2 tk hu out st2 hT hsz kept => ?_
    refine ⟨_, rfl, wpAny_letOwnedTupleGo_enum (s := { s with heap := h2, toks := tk + 1 }) out fun h3 he3 but => ?_⟩
    have hT3 : h3.get? s.heap.objs.size = some { cls := .type "tuple", data := .seq #[.int i tk, u] } := (but.2 _ (Nat.ne_of_gt elt)).trans hT
    have ru : RelV x u := item_K (b := b) (a := a) rv hu hx
    have fresh : ObjOk X.prog X.w (upd H s.heap.objs.size (.tup [.int (i : Nat), x])) h3 s.heap.objs.size (.tup [.int (i : Nat), x]) :=
      ⟨by show 2 ≤ sizeLine; decide, [.int i tk, u], .cons ⟨_, rfl⟩ (.cons ru .nil), ⟨_, hT3, rfl, _, rfl⟩⟩
    have J3 : Inv X pins σ (upd H s.heap.objs.size (.tup [.int (i : Nat), x])) { s with heap := h3, toks := tk + 1 } :=
      J.turnedNew (ch := [e, it]) (fun c o no q => (but.2 c (fun z => no (by simp [z]))).trans (kept c o (fun z => no (by simp [z])) (fun z => no (by simp [z])) q)) hf (Nat.le_refl _) fresh
    refine ⟨.ref s.heap.objs.size, _, J3, rfl, ⟨_, x, rfl, J.hok.fresh (Nat.le_refl _), rfl, fun ys hy => by rw [inj_K J hy hq]; exact hx⟩, ⟨⟨u, ?_⟩, st2.1.keep fun o q => (but.2 it hei.symm).trans q⟩, fun c mem => ?_⟩
    · have e1 : ((i + 1 : Nat) : Int) = (i : Int) + 1 := by omega
      rw [e1]
      exact he3
    · have lt : c < s.heap.objs.size := by
        rcases List.mem_cons.mp mem with q | mem2
        · rw [q]
          exact elt
        · rw [List.mem_singleton.mp mem2]
          exact ilt
      rw [upd_ne (Nat.ne_of_lt lt)]
      exact (hf c mem).1
  done := by
    rintro X rfl rfl rfl hc i pins s σ H E J hf ⟨⟨old, he⟩, hit⟩ ⟨xs, hq, rfl⟩
    obtain ⟨its, rv, isK, alt⟩ := seq_K J hq
    have len := rv.length
    have es : its.toArray.size = xs.length := by
      rw [List.size_toArray]
      omega
    refine wpAny_pyNext_enum_endD (draw_K (A := X.A.in1) (J.ok.hd hc) b it a hai its.toArray) he (by rw [es]; exact ⟨hit, isK⟩) fun h2 but => ⟨rfl, ?_⟩
    obtain ⟨f0, f1, f2, f3, f4, f5⟩ := hf it (by simp)
    exact J.turned (t' := s.toks) (fun c o no q => but c o no q) f0 f1 f3 f4 f5
  self := fun A i s Q E st h => by
    obtain ⟨⟨_, he⟩, _⟩ := st
    exact wpAny_pyIter_enum he h
theorem enum_new_T {t : Addr} {items : Array Value} : Meets (Builtin.«enumerate.__new__» ⟨[.type "enumerate", .ref t], []⟩) (fun _ R s => s.heap.IsTuple t items ∧
      R (.ok (.ret (.ref (s.heap.push (iterO false t)).objs.size))) { s with heap := (s.heap.push (iterO false t)).push { cls := .type "enumerate", data := .fields #[.none, .bool false, .ref s.heap.objs.size, rawInt 0, .none, .none] } }) := by
  refine .of_wp ?_
  rintro prog w A R ⟨hp, gs, dr, tk, os⟩ ⟨isT, want⟩
  have sub := sub_enumerate
  have it1 : ∀ {A' : Around} {E : Value → Shared → Prop} {Q : Value → Shared → Prop}, Q (.ref hp.objs.size) ⟨hp.push (iterO false t), gs, dr, tk, os⟩ → wpAny (model prog w) A' (pyIter (.ref t)) Q E ⟨hp, gs, dr, tk, os⟩ :=
    fun q => wpAny_pyIter_tuple isT q
  wp_walk using it1
  apply wpAny_stack_any
  intro st
  apply wpAny_pure
  split
  · rename_i c _ _ _ _ _
    cases (c == Value.type "enumerate")
    · wp_walk using it1
      exact ⟨_, rfl, want⟩
    · wp_walk using it1
      exact ⟨_, rfl, want⟩
  · wp_walk using it1
    exact ⟨_, rfl, want⟩
theorem called_enum {b : Bool} {a : Addr} {items : Array Value} {prog : Program} {w : World} {A : Around} {E : Value → Shared → Prop} {s : Shared} {Q : Value → Shared → Prop} (h1 : IsK b s.heap a items)
    (k : ∀ h2, IsEnum h2 (s.heap.objs.size + 1) s.heap.objs.size 0 .none → IterK b h2 s.heap.objs.size a 0 → h2.objs.size = s.heap.objs.size + 2 → (∀ c o, s.heap.get? c = some o → h2.get? c = some o) → Q (.ref (s.heap.objs.size + 1)) { s with heap := h2 }) :
    wpAny (model prog w) A (call (.type "enumerate") [.ref a]) Q E s := by
  cases b with
  | true => exact call_enumerate_list h1 fun h2 x1 x2 x3 x4 => k h2 x1 x2 x3 x4
  | false =>
    refine callType_new F.called_enumerate (by decide) (F.typeCall_enumerate_1 _) (F.newCall_enumerate_1 _) (fun ob => F.args_object_init_2 ob _) F.entry_enumerate_new enum_new_T ⟨h1, ?_⟩
    have z1 : (s.heap.push (iterO false a)).objs.size = s.heap.objs.size + 1 := Heap.size_push ..
    show _ ∧ _
    rw [z1]
    have gE : IsEnum ((s.heap.push (iterO false a)).push { cls := .type "enumerate", data := .fields #[.none, .bool false, .ref s.heap.objs.size, rawInt 0, .none, .none] }) (s.heap.objs.size + 1) s.heap.objs.size 0 .none := by
      have top1 := Heap.get?_push_size (s.heap.push (iterO false a)) (o := { cls := .type "enumerate", data := .fields #[.none, .bool false, .ref s.heap.objs.size, rawInt 0, .none, .none] }) rfl
      rw [z1] at top1
      exact top1
    refine ⟨⟨_, gE, rfl⟩, k _ gE ?_ ?_ ?_⟩
    · exact iter_K (b := false) (Heap.get?_push_of_some _ (Heap.get?_push_size _ rfl))
    · rw [Heap.size_push, z1]
    · intro c o q
      exact Heap.get?_push_of_some _ (Heap.get?_push_of_some _ q)
/-- enumerate(e) of a list or a tuple -/
def iE (b : Bool) (K : PySem.W.Frag) (ta : TA) : TI := fun σ H R => ta σ H fun vs H1 => ∃ a xs, vs = [.ref a] ∧ SqK b K H1 a xs ∧ R (ItE b K a) H1
theorem pi_E (b : Bool) {X : Cx} {e : Expr} {ta : TA} {p pos tpos : Pos} {elts : List Expr} {kk : Nat} (gl : Gl X "enumerate") (no : X.mg "enumerate" = none) (pa : PA X [e] ta) (st : starEach [e] X.env = [(false, eval e X.env)] := by rfl) :
    PI X (.Tuple elts kk tpos) (.Call (.Name "enumerate" p) [e] [] pos) (iE b X.K ta) := by
  constructor
  intro pins s σ H R J want
  refine Call_ (ld_blt J gl no boot_enumerate (PyProof.Rows.callWith_type1 (thn (pa.run pos pins s σ H _ J want) ?_) st rfl))
  rintro us s1 ⟨vs, H1, J1, r1, a, xs, rfl, hq, q⟩
  obtain ⟨u, rfl, ru⟩ := vals1 r1
  cases ru
  obtain ⟨its, rv, isK, alt⟩ := seq_K J1 hq
  refine called_enum isK fun h2 he hit _ kept => wpAny_pyIter_enum he ?_
  have J2 : Inv X pins σ H1 { s1 with heap := h2 } := J1.kept (t' := s1.toks) kept
  refine ⟨s1.heap.objs.size + 1, [s1.heap.objs.size + 1, s1.heap.objs.size], _, _, H1, rfl, J2, turn_E b a (s1.heap.objs.size + 1) s1.heap.objs.size (Nat.ne_of_lt (Nat.lt_succ_of_lt alt)) (Nat.ne_of_lt alt) (Nat.succ_ne_self _), ⟨⟨.none, he⟩, hit⟩, fun c mem => ?_, q⟩
  have le : s1.heap.objs.size ≤ c := by
    rcases List.mem_cons.mp mem with z | mem2
    · rw [z]
      exact Nat.le_succ _
    · rw [List.mem_singleton.mp mem2]
      exact Nat.le_refl _
  exact J1.fpOk le (J1.hok.fresh le)
theorem walk_E {b : Bool} {K : PySem.W.Frag} {a : Addr} {xs : List V} : Walk (ItE b K a) xs.length (fun H => SqK b K H a xs) (YPair (fun i => some (.int (i : Nat))) (fun i => xs[i]?)) := by
  refine ⟨fun i _ hi q => ⟨xs, xs[i], q, by simp [hi]⟩, fun _ q => ⟨xs, q, rfl⟩, fun i H v H' _ q y => ?_⟩
  obtain ⟨T, x, h1, h2, h3, h4⟩ := y
  exact ⟨T, .int (i : Nat), x, h1, h2, h3, rfl, h4 xs q⟩
end G0

namespace G0
open PySem PySem.Spec PyProof.Rows L2
abbrev s_Spots : Stmt := top 27
abbrev s_Spots_init : Stmt := inClass s_Spots 0
abbrev s_Spots_points : Stmt := inClass s_Spots 4
abbrev s_Spots_place : Stmt := inClass s_Spots 5
/-! ### what is compared -/
theorem lay_ints : ∀ ns : List Int, PyData.canLayAll0 (ns.map PyData.int) = true
  | [] => by simp [PyData.canLayAll0]
  | n :: ns => by simp [PyData.canLayAll0, PyData.canLay0, lay_ints ns]
theorem dep_ints : ∀ ns : List Int, PyData.depthAll (ns.map PyData.int) = 0
  | [] => by simp [PyData.depthAll]
  | n :: ns => by simp [PyData.depthAll, PyData.depth, dep_ints ns]
theorem lay_tups : ∀ ts : List (List Int), PyData.canLayAll0 (ts.map dTup) = true
  | [] => by simp [PyData.canLayAll0]
  | t :: ts => by simp [PyData.canLayAll0, PyData.canLay0, lay_tups ts, lay_ints]
theorem dep_tups : ∀ ts : List (List Int), PyData.depthAll (ts.map dTup) ≤ 1
  | [] => by simp [PyData.depthAll]
  | t :: ts => by
    have := dep_tups ts
    simp only [List.map_cons, PyData.depthAll, PyData.depth, dep_ints]
    omega
theorem shaped_tup (ns : List Int) : SeqAt.shaped (dTup ns) = true := by
  show (PyData.canLay0 (dTup ns) && decide (PyData.depth (dTup ns) ≤ 64)) = true
  simp only [PyData.canLay0, lay_ints, PyData.depth, dep_ints]
  decide
theorem shaped_tups (ts : List (List Int)) : SeqAt.shaped (.list (ts.map dTup)) = true := by
  show (PyData.canLay0 (.list (ts.map dTup)) && decide (PyData.depth (.list (ts.map dTup)) ≤ 64)) = true
  have h : PyData.depth (.list (ts.map dTup)) ≤ 64 := by
    have := dep_tups ts
    simp only [PyData.depth]
    omega
  simp only [PyData.canLay0, lay_tups, decide_eq_true h, Bool.and_self]
theorem any_eqv (ts : List (List Int)) (t : List Int) : ((ts.map dTup).any fun z => PyData.eqv z (dTup t)) = decide (t ∈ ts) := by
  induction ts with
  | nil => simp
  | cons u us ih =>
    rw [List.map_cons, List.any_cons, ih, eqv_tup, Bool.eq_iff_iff]
    simp only [Bool.or_eq_true, decide_eq_true_eq, List.mem_cons]
    exact ⟨fun h => h.imp (fun e => e.symm) id, fun h => h.imp (fun e => e.symm) id⟩
theorem not_mem_take {α : Type} {xs : List α} {i : Nat} {x : α} (nd : xs.Nodup) (h : xs[i]? = some x) : x ∉ xs.take i := by
  intro m
  obtain ⟨hi, e⟩ := List.getElem?_eq_some_iff.mp h
  obtain ⟨j, hj, ej⟩ := List.getElem_of_mem m
  rw [List.length_take] at hj
  rw [List.getElem_take] at ej
  have := (List.getElem_inj (h₀ := by omega) (h₁ := hi) nd).mp (ej.trans e.symm)
  omega
theorem DpAll.snoc {K : PySem.W.Frag} {H : Hp} : ∀ {vs : List V} {ds : List PyData} {v : V} {d : PyData}, DpAll K H vs ds → Dp K H v d → DpAll K H (vs ++ [v]) (ds ++ [d])
  | _, _, _, _, .nil, h => .cons h .nil
  | _, _, _, _, .cons h1 h2, h => .cons h1 (DpAll.snoc h2 h)
theorem DpAll.len {K : PySem.W.Frag} {H : Hp} : ∀ {vs : List V} {ds : List PyData}, DpAll K H vs ds → vs.length = ds.length
  | _, _, .nil => rfl
  | _, _, .cons _ h => by rw [List.length_cons, List.length_cons, DpAll.len h]

/-! ### Spots -/
/-- one point as it may be passed -/
structure Pt (K : PySem.W.Frag) (H : Hp) (v : V) (t : List Int) : Prop where
  at_ : ∃ p a b c, v = .ref p ∧ t = [a, b, c] ∧ Sq K H p ([a, b, c].map V.int)
  nz : ∃ n ∈ t, n ≠ 0
  sm : ∀ n ∈ t, n.natAbs < 2 ^ 30
theorem Pt.same {K : PySem.W.Frag} {H H' : Hp} {v : V} {t : List Int} (e : Same H H') (h : Pt K H v t) : Pt K H' v t := by
  obtain ⟨⟨p, a, b, c, h1, h2, h3⟩, h4, h5⟩ := h
  exact ⟨⟨p, a, b, c, h1, h2, h3.same e⟩, h4, h5⟩
/-- Spots that keep these told points -/
def SpotsAt (K : PySem.W.Frag) (C : Addr) (H : Hp) (x : Addr) (ts : List (List Int)) : Prop :=
  ∃ dx l vs, H x = some (.ins C dx [("_points", .ref l)]) ∧ H l = some (.lst vs) ∧ DpAll K H vs (ts.map dTup)
theorem SpotsAt.same {K : PySem.W.Frag} {C x : Addr} {H H' : Hp} {ts : List (List Int)} (e : Same H H') (h : SpotsAt K C H x ts) : SpotsAt K C H' x ts := by
  obtain ⟨dx, l, vs, h1, h2, h3⟩ := h
  exact ⟨dx, l, vs, e _ _ h1, e _ _ h2, DpAll.same e h3⟩
def sp_init (K : PySem.W.Frag) (C : Addr) : Sp := fun vs H Q _ => ∃ (H0 : Hp) (x dx p : Addr) (us : List V) (ts : List (List Int)), vs = [.ref x, .ref p] ∧ Same H0 H ∧ H0 x = none ∧ H x = some (.ins C dx []) ∧ Sq K H0 p us ∧ us.length = ts.length ∧
  (∀ (i : Nat) (v : V) (t : List Int), us[i]? = some v → ts[i]? = some t → Pt K H0 v t) ∧ 1 ≤ ts.length ∧ ts.length ≤ 24 ∧ (ts.map plainI).Nodup ∧ ∀ H', Same H0 H' → SpotsAt K C H' x (ts.map plainI) → Q .non H'
structure SpTxt (K : PySem.W.Frag) (mg : Str → Option Value) (C : Addr) : Prop where
  cl : Cls K C
  nP : NoAttr K C "_points"
  mgC : mg "Spots" = some (.ref C)
  most : ∃ t, mg "MOST_POINTS" = some (.int 24 t)
section
variable {P : Program} {w : World} {K : PySem.W.Frag} {mg : Str → Option Value} {base : Heap}
theorem sc_init : FnScope ["self", "points", "told", "position", "point"] ["self", "points"] (defScope s_Spots_init) := ⟨rfl, rfl, rfl, by decide +kernel, rfl, by decide +kernel, by decide +kernel⟩
theorem ok_init {f C f1 f2 f3 : Addr} {fd fd1 fd2 fd3 : FuncData} (F : Fun K "__init__" "Spots.__init__" s_Spots_init f fd) (T : SpTxt K mg C) (B : Blt mg) (D1 : Df K mg "is_list" s_is_list ["value"] f1 fd1) (D2 : Df K mg "is_point" s_is_point ["value"] f2 fd2) (D3 : Df K mg "told_point" s_told_point ["point"] f3 fd3)
    (G1 : FnOk P w K mg base CX0 1 f1 fd1 ["value"] (sp_is_list K)) (G2 : FnOk P w K mg base CX0 3 f2 fd2 ["value"] (sp_is_point K)) (G3 : FnOk P w K mg base CX0 4 f3 fd3 ["point"] (sp_told_point K)) : FnOk P w K mg base CX0 5 f fd ["self", "points"] (sp_init K C) := by
  refine F.ok sc_init (fun vs H Q E h => ?_) (fun cdv A outer s H vs Q E hr h => ?_)
  · obtain ⟨H0, x, dx, p, us, ts, rfl, _⟩ := h
    rfl
  · obtain ⟨H0, x, dx, p, us, ts, rfl, s0, hx0, hx, hp, hlu, hpt, h1, h24, hnd, q⟩ := h
    obtain ⟨t24, m24⟩ := T.most
    obtain ⟨kind, hp⟩ := hp.kind
    have hu65 : (A.deeper (envOfC "Spots.__init__" (defScope s_Spots_init) s.heap.objs.size f cdv)).units + 65 < cLine := by
      have := hr.un
      omega
    refine ⟨_, pss_cons (ps_if (PW.pt (pw_or (pt_not (pt_val (pdf D1 G1 (hr.mono (by decide)) (pa_cons (pv 1) pa_nil)))) (pw_or1 (pt_not (pt_chain op_le op_le pe_int (pe_callB call_len_seq (by rfl) B.len PySem.boot_len (pa_cons (pv 1) pa_nil)) (pe_glob (v := V.int 24) rfl m24 ⟨_, rfl⟩)))))) (pss_one ps_never) pss_nil)
      (pss_cons (ps_set (i := 2) sc_init.nd rfl (Or.inl rfl) (pe_lst pa_nil))
      (pss_cons (ps_for PassesOwn.never rfl (pi_E kind (by rfl) B.enumerate (pa_cons (pv 1) pa_nil)) (pg_tup rfl (pgs_cons (pg_name (i := 3) sc_init.nd rfl (.inl rfl)) (pgs_cons (pg_name (i := 4) sc_init.nd rfl (.inl rfl)) pgs_nil)))
        (pss_cons (ps_if (PW.pt (pw_or (pt_not (pt_val (pdf D2 G2 (hr.mono (by decide)) (pa_cons (pv 4) pa_nil)))) (pw_or1 (pt_cmpR (op_inD hu65) (pdf D3 G3 hr (pa_cons (pv 4) pa_nil)) (pv 2) (by rfl))))) (pss_one ps_never) pss_nil)
        (pss_one (ps_expr (pe_bm PySem.F.plainAttrs_list PySem.F.slot_list_append PySem.F.type_list_append mt_append (pv 2) (pa_cons (pdf D3 G3 hr (pa_cons (pv 4) pa_nil)) pa_nil))))))
      (pss_one (ps_fld (pv 0) (pv 2) rfl)))), ?_⟩
    -- not is_list(points) or not 1 <= len(points) <= MOST_POINTS
    refine ⟨_, rfl, p, us, rfl, (hp.same s0).sq, fun H1 s1 => ⟨true, rfl, ?_⟩⟩
    have s01 := s0.trans s1
    refine iteF ?_
    refine ⟨_, rfl, p, us, rfl, (hp.same s01).sq, ?_⟩
    have e1 : decide ((1 : Int) ≤ ((us.length : Nat) : Int)) = true := decide_eq_true (by omega)
    have e24 : decide (((us.length : Nat) : Int) ≤ 24) = true := decide_eq_true (by omega)
    refine ⟨1, _, rfl, rfl, _, rfl, ?_⟩
    rw [e1]
    refine iteT ⟨_, 24, rfl, rfl, _, rfl, ?_⟩
    rw [e24]
    refine iteF ?_
    -- told = []
    refine ⟨Nat.zero_le _, fun l hl => ?_⟩
    -- for position, point in enumerate(points)
    have hx1 : H1 x = some (.ins C dx []) := s1 _ _ hx
    have nxl : x ≠ l := ne_of_none hx1 hl
    have l0 : H0 l = none := s01.free hl
    refine ⟨_, rfl, p, us, rfl, hp.same (s01.trans (same_new hl)), for_it (walk_E (b := kind) (xs := us)) (fun i σ H2 => ∃ (D0 : Hp) (vs : List V) (y3 y4 : Option V), σ = [some (.ref x), some (.ref p), some (.ref l), y3, y4] ∧ Same H0 D0 ∧ D0 x = none ∧ D0 l = none ∧ Same D0 H2 ∧
      H2 x = some (.ins C dx []) ∧ H2 l = some (.lst vs) ∧ DpAll K D0 vs (((ts.map plainI).take i).map dTup)) ⟨H0, [], none, none, rfl, Same.refl _, hx0, l0, s01.trans (same_new hl), ?_, upd_same, .nil⟩ ?_ ?_ ?_⟩
    · rw [upd_ne nxl]
      exact hx1
    · rintro i σ H2 _ ⟨D0, vs, y3, y4, rfl, a1, a2, a3, a4, _⟩
      exact hp.same (a1.trans a4)
    · rintro i y σ H2 H3 hi ⟨D0, vs, y3, y4, rfl, a1, a2, a3, a4, a5, a6, a7⟩ ⟨Tp, z1, z2, rfl, nT, rfl, ez1, ez2⟩
      cases ez1
      obtain ⟨t, et⟩ : ∃ t, ts[i]? = some t := ⟨ts[i]'(by omega), List.getElem?_eq_getElem _⟩
      have pt0 := hpt i z2 t ez2 et
      obtain ⟨⟨pp, a, b, c, rfl, rfl, sq⟩, nz, sm⟩ := pt0
      have sT : Same H2 (upd H2 Tp (.tup [.int (i : Nat), .ref pp])) := same_new nT
      refine ⟨Tp, _, rfl, SqT.mk upd_same, rfl, _, _, rfl, _, _, rfl, rfl, ?_⟩
      have s3 : Same H0 (upd H2 Tp (.tup [.int (i : Nat), .ref pp])) := (a1.trans a4).trans sT
      -- not is_point(point) or told_point(point) in told
      refine ⟨_, rfl, pp, a, b, c, rfl, sq.same s3, fun H4 s4 => ?_⟩
      rw [any_of nz]
      refine ⟨true, rfl, iteF ?_⟩
      refine ⟨_, rfl, pp, a, b, c, rfl, sq.same (s3.trans s4), nz, sm, fun H5 q1 s5 n5 h5 => ?_⟩
      have sD5 : Same D0 H5 := (a4.trans sT).trans (s4.trans s5)
      have hl5 : H5 l = some (.lst vs) := s5 _ _ (s4 _ _ (sT _ _ a6))
      refine ⟨_, rfl, dTup (plainI [a, b, c]), ((ts.map plainI).take i).map dTup, dp_tup (SqT.mk h5), .lst (SqL.mk hl5) (DpAll.same sD5 a7), shaped_tup _, shaped_tups _, ?_⟩
      have em : (ts.map plainI)[i]? = some (plainI [a, b, c]) := by
        rw [List.getElem?_map, et]
        rfl
      have no : ((((ts.map plainI).take i).map dTup).any fun z => PyData.eqv z (dTup (plainI [a, b, c]))) = false := by
        rw [any_eqv]
        exact decide_eq_false (not_mem_take hnd em)
      rw [no]
      refine ⟨_, rfl, iteF ?_⟩
      -- told.append(told_point(point))
      refine ⟨_, rfl, .inl ⟨rfl, _, SqL.mk hl5⟩, _, rfl, pp, a, b, c, rfl, sq.same (a1.trans sD5), nz, sm, fun H6 q2 s6 n6 h6 => ?_⟩
      have sD6 : Same D0 H6 := sD5.trans s6
      have hl6 : H6 l = some (.lst vs) := s6 _ _ hl5
      have hx6 : H6 x = some (.ins C dx []) := s6 _ _ (s5 _ _ (s4 _ _ (sT _ _ a5)))
      have q20 : D0 q2 = none := sD5.free n6
      have nq2l : q2 ≠ l := (ne_of_none hl5 n6).symm
      have nq2x : q2 ≠ x := (ne_of_none (s5 _ _ (s4 _ _ (sT _ _ a5))) n6).symm
      have hvl : vs.length ≤ 24 := by
        rw [DpAll.len a7, List.length_map, List.length_take]
        have := List.length_map (f := plainI) (as := ts)
        omega
      refine ⟨l, _, _, rfl, rfl, hl6, Nat.lt_of_le_of_lt hvl (by decide), ?_⟩
      refine ⟨upd D0 q2 (.tup ((plainI [a, b, c]).map V.int)), vs ++ [.ref q2], _, _, rfl, a1.trans (same_new q20), ?_, ?_, ?_, ?_, upd_same, ?_⟩
      · rw [upd_ne nq2x.symm]
        exact a2
      · rw [upd_ne nq2l.symm]
        exact a3
      · intro b o e
        by_cases eb : b = q2
        · subst eb
          rw [upd_same] at e
          cases e
          rw [upd_ne nq2l]
          exact h6
        · rw [upd_ne eb] at e
          rw [upd_ne (ne_of_none e a3)]
          exact sD6 _ _ e
      · rw [upd_ne nxl]
        exact hx6
      · rw [List.take_add_one, em, List.map_append]
        exact DpAll.snoc (DpAll.same (same_new q20) a7) (dp_tup (SqT.mk upd_same))
    · rintro σ H2 ⟨D0, vs, y3, y4, rfl, a1, a2, a3, a4, a5, a6, a7⟩
      rw [List.take_of_length_le (by rw [List.length_map]; omega)] at a7
      refine ⟨_, rfl, _, rfl, x, C, dx, [], rfl, a5, T.cl, T.nP, (by show 0 < 1000; decide), ?_⟩
      have sx : Same D0 (upd H2 x (.ins C dx (putF "_points" (.ref l) []))) := fun b o e => by
        rw [upd_ne (ne_of_none e a2)]
        exact a4 _ _ e
      refine q _ (a1.trans sx) ⟨dx, l, vs, upd_same, ?_, DpAll.same sx a7⟩
      rw [upd_ne nxl.symm]
      exact a6
end
end G0

namespace G0
open PySem PySem.Spec PyProof.Rows L2
section
variable {P : Program} {w : World} {K : PySem.W.Frag} {mg : Str → Option Value} {base : Heap}
/-- a list of told points -/
def Tups (K : PySem.W.Frag) (H : Hp) (l : Addr) (ts : List (List Int)) : Prop := ∃ vs, H l = some (.lst vs) ∧ DpAll K H vs (ts.map dTup)
theorem Tups.dp {K : PySem.W.Frag} {H : Hp} {l : Addr} {ts : List (List Int)} (h : Tups K H l ts) : Dp K H (.ref l) (.list (ts.map dTup)) := by
  obtain ⟨vs, h1, h2⟩ := h
  exact .lst (SqL.mk h1) h2
def sp_points (K : PySem.W.Frag) (C : Addr) : Sp := fun vs H Q _ => ∃ (x : Addr) (ts : List (List Int)), vs = [.ref x] ∧ SpotsAt K C H x ts ∧ ∀ H' l, Same H H' → H l = none → Tups K H' l ts → Q (.ref l) H'
theorem sc_points : FnScope ["self"] ["self"] (defScope s_Spots_points) := ⟨rfl, rfl, rfl, by decide +kernel, rfl, by decide +kernel, by decide +kernel⟩
theorem ok_points {f C : Addr} {fd : FuncData} (F : Fun K "points" "Spots.points" s_Spots_points f fd) (T : SpTxt K mg C) (B : Blt mg) : FnOk P w K mg base CX0 1 f fd ["self"] (sp_points K C) := by
  refine F.ok sc_points (fun vs H Q E h => ?_) (fun cdv A outer s H vs Q E hr h => ?_)
  · obtain ⟨x, ts, rfl, _⟩ := h
    rfl
  · obtain ⟨x, ts, rfl, ⟨dx, l, us, h1, h2, h3⟩, q⟩ := h
    refine ⟨_, pss_one (ps_ret (pe_callTy call_list_of (by rfl) B.list boot_tlist (pa_cons (pe_fld (pv 0) rfl) pa_nil))), ?_⟩
    refine ⟨_, rfl, x, C, dx, _, _, rfl, h1, T.cl, T.nP, rfl, l, us, rfl, .inl (SqL.mk h2), fun m hm => ?_⟩
    exact q _ m (same_new hm) hm ⟨us, upd_same, DpAll.same (same_new hm) h3⟩

def PlaceIs (ts : List (List Int)) (t : List Int) : Option Nat → Prop
  | none => t ∉ ts
  | some j => ts[j]? = some t ∧ ∀ m, m < j → ts[m]? ≠ some t
def placeV : Option Nat → V
  | none => .non
  | some j => .int (j : Nat)
def sp_place (K : PySem.W.Frag) (C : Addr) : Sp := fun vs H Q _ => ∃ (x : Addr) (ts : List (List Int)) (v : V) (t : List Int) (r : Option Nat), vs = [.ref x, v] ∧ SpotsAt K C H x ts ∧ Pt K H v t ∧ PlaceIs ts (plainI t) r ∧ ∀ H', Same H H' → Q (placeV r) H'
theorem sc_place : FnScope ["self", "point", "told"] ["self", "point"] (defScope s_Spots_place) := ⟨rfl, rfl, rfl, by decide +kernel, rfl, by decide +kernel, by decide +kernel⟩
theorem ok_place {f C f3 : Addr} {fd fd3 : FuncData} (F : Fun K "place" "Spots.place" s_Spots_place f fd) (T : SpTxt K mg C) (D3 : Df K mg "told_point" s_told_point ["point"] f3 fd3) (G3 : FnOk P w K mg base CX0 4 f3 fd3 ["point"] (sp_told_point K)) :
    FnOk P w K mg base CX0 5 f fd ["self", "point"] (sp_place K C) := by
  refine F.ok sc_place (fun vs H Q E h => ?_) (fun cdv A outer s H vs Q E hr h => ?_)
  · obtain ⟨x, ts, v, t, r, rfl, _⟩ := h
    rfl
  · obtain ⟨x, ts, v, t, r, rfl, ⟨dx, l, us, h1, h2, h3⟩, ⟨⟨p, a, b, c, rfl, rfl, sq⟩, nz, sm⟩, pl, q⟩ := h
    have hu65 : (A.deeper (envOfC "Spots.place" (defScope s_Spots_place) s.heap.objs.size f cdv)).units + 65 < cLine := by
      have := hr.un
      omega
    refine ⟨_, pss_cons (ps_set (i := 2) sc_place.nd rfl (Or.inl rfl) (pdf D3 G3 hr (pa_cons (pv 1) pa_nil)))
      (pss_cons (ps_if (pt_cmpR (op_notInD hu65) (pv 2) (pe_fld (pv 0) rfl) (by rfl)) (pss_one (ps_ret pe_non)) pss_nil)
      (pss_one (ps_ret (pe_bm PySem.F.plainAttrs_list PySem.F.slot_list_index PySem.F.type_list_index (mt_indexD hu65) (pe_fld (pv 0) rfl) (pa_cons (pv 2) pa_nil))))), ?_⟩
    refine ⟨_, rfl, p, a, b, c, rfl, sq, nz, sm, fun H1 t1 s1 n1 g1 => ?_⟩
    have i1 := s1 _ _ h1
    have i2 := s1 _ _ h2
    have i3 := DpAll.same s1 h3
    refine ⟨_, rfl, _, rfl, x, C, dx, _, _, rfl, i1, T.cl, T.nP, rfl, dTup (plainI [a, b, c]), ts.map dTup, dp_tup (SqT.mk g1), .lst (SqL.mk i2) i3, shaped_tup _, shaped_tups _, ?_⟩
    rw [any_eqv]
    match r, pl with
    | none, pl =>
      have e : decide (plainI [a, b, c] ∈ ts) = false := decide_eq_false pl
      rw [e]
      exact ⟨_, rfl, iteT (q H1 s1)⟩
    | some j, ⟨e1, e2⟩ =>
      have e : decide (plainI [a, b, c] ∈ ts) = true := decide_eq_true (List.mem_of_getElem? e1)
      rw [e]
      refine ⟨_, rfl, iteF ?_⟩
      refine ⟨_, rfl, x, C, dx, _, _, rfl, i1, T.cl, T.nP, rfl, .inl ⟨rfl, _, SqL.mk i2⟩, _, rfl, l, _, dTup (plainI [a, b, c]), ts.map dTup, j, dTup (plainI [a, b, c]), rfl, rfl, .lst (SqL.mk i2) i3, dp_tup (SqT.mk g1), shaped_tups _, shaped_tup _, ?_, ?_, ?_, q H1 s1⟩
      · rw [List.getElem?_map, e1]
        rfl
      · rw [eqv_tup]
        exact decide_eq_true rfl
      · intro m z hm hz
        rw [List.getElem?_map] at hz
        cases et : ts[m]? with
        | none =>
          rw [et] at hz
          cases hz
        | some u =>
          rw [et] at hz
          obtain rfl := Option.some.inj hz
          rw [eqv_tup]
          exact decide_eq_false fun e => e2 m hm (by rw [et, e])
end
end G0

namespace G0
open PySem PySem.Spec PyProof.Rows L2
abbrev s_pot : Stmt := top 31
abbrev s_draw : Stmt := top 32
abbrev s_pick : Stmt := top 33
/-! ### a law's pot: a list of two ints, changed by each draw; D: what else is known -/
structure Wd (p : Addr) (D H : Hp) : Prop where
  s : Same D H
  n : D p = none
  pot : ∃ a b : Int, 0 ≤ a ∧ 0 ≤ b ∧ b < 4294967296 ∧ H p = some (.lst [.int a, .int b])
theorem Wd.pure {p : Addr} {D H H' : Hp} (w : Wd p D H) (e : Same H H') : Wd p D H' := by
  obtain ⟨s, n, a, b, h1, h2, h3, h4⟩ := w
  exact ⟨s.trans e, n, a, b, h1, h2, h3, e _ _ h4⟩
theorem Wd.got {p q : Addr} {D H : Hp} {o : HO} (w : Wd p D H) (h0 : D q = none) (hp : q ≠ p) (h : H q = some o) : Wd p (upd D q o) H := by
  refine ⟨fun b u e => ?_, ?_, w.pot⟩
  · by_cases eb : b = q
    · subst eb
      rw [upd_same] at e
      cases e
      exact h
    · rw [upd_ne eb] at e
      exact w.s _ _ e
  · rw [upd_ne hp.symm]
    exact w.n
theorem Wd.ne {p q : Addr} {D H : Hp} (w : Wd p D H) (h : H q = none) : q ≠ p := by
  obtain ⟨a, b, _, _, _, h4⟩ := w.pot
  exact (ne_of_none h4 h).symm
/-- a new object, made from H on -/
theorem Wd.new {p q : Addr} {D H H' : Hp} {o : HO} (w : Wd p D H) (e : Same H H') (h : H q = none) (hq : H' q = some o) : Wd p (upd D q o) H' ∧ Same D (upd D q o) ∧ (upd D q o) q = some o :=
  ⟨(w.pure e).got (w.s.free h) (w.ne h) hq, same_new (w.s.free h), upd_same⟩
section
variable {P : Program} {w : World} {K : PySem.W.Frag} {mg : Str → Option Value} {base : Heap}
theorem if_te {ta tb : TE} {σ : L2.St} {H : Hp} {Q : V → Hp → Prop} {b : Bool} (S : V → Hp → Prop) (h1 : b = true → ∀ R : V → Hp → Prop, (∀ v H', S v H' → R v H') → ta σ H R) (h2 : b = false → ∀ R : V → Hp → Prop, (∀ v H', S v H' → R v H') → tb σ H R) (k : ∀ v H', S v H' → Q v H') :
    if b = true then ta σ H Q else tb σ H Q := by
  cases b with
  | true => exact iteT (h1 rfl Q k)
  | false => exact iteF (h2 rfl Q k)
/-! _law_pot -/
theorem boot_abs : bootBuiltins "abs" = some (.builtin "abs") := by decide +kernel
theorem boot_max : bootBuiltins "max" = some (.builtin "max") := by decide +kernel
theorem boot_divmod : bootBuiltins "divmod" = some (.builtin "divmod") := by decide +kernel
theorem boot_repr : bootBuiltins "repr" = some (.builtin "repr") := by decide +kernel
def sp_pot (K : PySem.W.Frag) : Sp := fun vs H Q _ => ∃ (l : Addr) (ns : List Int) (k : Nat), vs = [.ref l, .int (k : Nat)] ∧ SqL K H l (ns.map V.int) ∧ ns.length ≤ 63 ∧ k ≤ 63 ∧ ∀ H' p D, Same H H' → Same H D → Wd p D H' → Q (.ref p) H'
theorem sc_pot : FnScope ["_law_script", "_law_k", "_law_cell"] ["_law_script", "_law_k"] (defScope s_pot) := ⟨rfl, rfl, rfl, by decide +kernel, rfl, by decide +kernel, by decide +kernel⟩
theorem ok_pot {f : Addr} {fd : FuncData} (F : Fun K "_law_pot" "_law_pot" s_pot f fd) (B : Blt mg) : FnOk P w K mg base CX0 1 f fd ["_law_script", "_law_k"] (sp_pot K) := by
  refine F.ok sc_pot (fun vs H Q E h => ?_) (fun cdv A outer s H vs Q E hr h => ?_)
  · obtain ⟨l, ns, k, rfl, _⟩ := h
    rfl
  · obtain ⟨l, ns, k, rfl, hs, hn, hk, q⟩ := h
    refine ⟨_, pss_cons (ps_set (i := 2) sc_pot.nd rfl (Or.inl rfl) (pe_ifExp (pt_cmpR op_lt (pv 1) (pe_callB call_len_seq (by rfl) B.len PySem.boot_len (pa_cons (pv 0) pa_nil)) (nomark _))
        (pe_callB call_abs (by rfl) B.abs boot_abs (pa_cons (pe_ix ix_list (pv 0) (pv 1) (fun _ _ => rfl)) pa_nil))
        (pe_op op_add (pe_op op_mul pe_int (pv 1)) pe_int)))
      (pss_one (ps_ret (pe_lst (pa_cons (pe_callB (call_max2 rfl) (by rfl) B.max boot_max (pa_cons pe_int (pa_cons (pe_op op_sub (pv 2) (pe_op op_pow pe_int pe_int)) pa_nil)))
        (pa_cons (pe_op op_add (pe_op op_modN (pe_callTy call_int1 (by rfl) B.int boot_tint (pa_cons (pe_op op_add (pe_op op_add (pe_op op_mul (pe_op op_modN (pe_callTy call_int1 (by rfl) B.int boot_tint (pa_cons (pv 2) pa_nil)) pe_int) pe_int) (pe_op op_mul pe_int (pv 1))) pe_int) pa_nil)) pe_int) pe_int) pa_nil))))), ?_⟩
    refine ⟨_, rfl, _, rfl, l, _, rfl, .inl hs, _, _, rfl, rfl, _, rfl, ?_⟩
    refine if_te (fun v H' => ∃ i : Int, v = .int i ∧ 0 ≤ i ∧ H' = H) (fun e R hR => ?_) (fun e R hR => ?_) ?_
    · have hk2 : k < ns.length := by
        have := of_decide_eq_true e
        rw [List.length_map] at this
        omega
      refine ⟨_, rfl, _, rfl, l, _, _, .int ns[k], rfl, rfl, hs, atI_nat ?_, _, rfl, hR _ _ ⟨_, rfl, ?_, rfl⟩⟩
      · rw [List.getElem?_map, List.getElem?_eq_getElem hk2]
        rfl
      · split <;> omega
    · refine ⟨_, rfl, _, _, rfl, rfl, .inl ⟨by decide, by decide⟩, _, _, rfl, rfl, hR _ _ ⟨_, rfl, by omega, rfl⟩⟩
    rintro v H' ⟨i, rfl, hi, rfl⟩
    refine ⟨_, rfl, _, _, rfl, rfl, ⟨by decide, by decide, by decide⟩, _, _, rfl, rfl, _, _, rfl, ?_⟩
    refine ⟨_, rfl, .inl ⟨_, rfl, _, _, rfl, rfl, (show (2147483549 : Int) ≠ 0 by decide), _, _, rfl, rfl, .inr ⟨by decide, by decide⟩, _, rfl, _, _, rfl, rfl, .inl ⟨by decide, by decide⟩, _, _, rfl, rfl, _, _, rfl, rfl, ?_⟩⟩
    refine .inl ⟨_, rfl, _, _, rfl, rfl, (show (2147483563 : Int) ≠ 0 by decide), _, _, rfl, rfl, ?_⟩
    refine ⟨by show 2 ≤ sizeLine; decide, fun p hp => q _ p H' (same_new hp) (Same.refl _) ⟨same_new hp, hp, _, _, ?_, ?_, ?_, upd_same⟩⟩
    · split <;> omega
    · have := Int.fmod_nonneg_of_pos (i.fmod 2147483549 * 48271 + 7577 * (k : Int) + 31) (b := 2147483563) (by decide)
      omega
    · have := Int.fmod_lt_of_pos (i.fmod 2147483549 * 48271 + 7577 * (k : Int) + 31) (b := 2147483563) (by decide)
      omega

/-! _law_draw -/
def sp_draw : Sp := fun vs H Q _ => ∃ (p : Addr) (m : Int) (D : Hp), vs = [.ref p, .int m] ∧ Wd p D H ∧ 1 ≤ m ∧ m < 1073741824 ∧ ∀ (H' : Hp) (d : Int), Wd p D H' → 0 ≤ d → d < m → Q (.int d) H'
theorem sc_draw : FnScope ["_law_pot_here", "_law_many", "_law_digit"] ["_law_pot_here", "_law_many"] (defScope s_draw) := ⟨rfl, rfl, rfl, by decide +kernel, rfl, by decide +kernel, by decide +kernel⟩
theorem ok_draw {f : Addr} {fd : FuncData} (F : Fun K "_law_draw" "_law_draw" s_draw f fd) (B : Blt mg) : FnOk P w K mg base CX0 1 f fd ["_law_pot_here", "_law_many"] sp_draw := by
  refine F.ok sc_draw (fun vs H Q E h => ?_) (fun cdv A outer s H vs Q E hr h => ?_)
  · obtain ⟨p, m, D, rfl, _⟩ := h
    rfl
  · obtain ⟨p, m, D, rfl, ⟨sD, nD, a, b, ha, hb, hb2, hp⟩, m1, m2, q⟩ := h
    refine ⟨_, pss_cons (ps_if (pt_cmpR op_gt (pe_ix ix_list (pv 0) pe_int (fun _ _ => rfl)) pe_int (nomark _))
        (pss_cons (ps_asg (pe_callB call_divmod (by rfl) B.divmod boot_divmod (pa_cons (pe_ix ix_list (pv 0) pe_int (fun _ _ => rfl)) (pa_cons (pv 1) pa_nil))) (pg_tup rfl (pgs_cons (pg_sub (pv 0) pe_int set_list) (pgs_cons (pg_name (i := 2) sc_draw.nd rfl (.inl rfl)) pgs_nil))))
        (pss_one (ps_ret (pv 2)))) pss_nil)
      (pss_cons (ps_asg (pe_op op_modN (pe_callTy call_int1 (by rfl) B.int boot_tint (pa_cons (pe_op op_add (pe_op op_mul (pe_ix ix_list (pv 0) pe_int (fun _ _ => rfl)) pe_int) pe_int) pa_nil)) pe_int) (pg_sub (pv 0) pe_int set_list))
      (pss_one (ps_ret (pe_op op_modN (pe_callTy call_int1 (by rfl) B.int boot_tint (pa_cons (pe_op op_fdivN (pe_op op_modN (pe_callTy call_int1 (by rfl) B.int boot_tint (pa_cons (pe_op op_mul (pe_ix ix_list (pv 0) pe_int (fun _ _ => rfl)) (pe_ix ix_list (pv 0) pe_int (fun _ _ => rfl))) pa_nil)) pe_int) pe_int) pa_nil)) (pv 1))))), ?_⟩
    have ix0 : atI [V.int a, V.int b] 0 = some (.int a) := rfl
    have ix1 : atI [V.int a, V.int b] 1 = some (.int b) := rfl
    refine ⟨_, rfl, p, _, _, _, rfl, rfl, SqL.mk hp, ix0, _, _, rfl, rfl, _, rfl, ?_⟩
    refine ite2 (fun e => ?_) (fun e => ?_)
    · have ha0 : 0 < a := of_decide_eq_true e
      refine ⟨_, rfl, p, _, _, _, rfl, rfl, SqL.mk hp, ix0, _, rfl, _, _, rfl, ⟨m1, m2⟩, fun t ht => ?_⟩
      have ntp : t ≠ p := (ne_of_none hp ht).symm
      refine ⟨t, _, rfl, SqT.mk upd_same, rfl, _, _, rfl, ?_⟩
      refine ⟨_, rfl, p, [V.int a, V.int b], 0, 0, rfl, rfl, ?_, rfl, ?_⟩
      · rw [upd_ne ntp.symm]
        exact hp
      refine ⟨_, _, rfl, rfl, ?_⟩
      refine ⟨_, rfl, ?_⟩
      refine q _ _ ⟨fun c o ec => ?_, nD, a / m, b, Int.ediv_nonneg ha (by omega), hb, hb2, upd_same⟩ (Int.emod_nonneg a (by omega)) (Int.emod_lt_of_pos a (by omega))
      rw [upd_ne (ne_of_none ec nD), upd_ne (ne_of_none (sD _ _ ec) ht)]
      exact sD _ _ ec
    · have hb31 : (-(2 ^ 64 : Int) < b ∧ b < 2 ^ 64) := ⟨by omega, by omega⟩
      have n87 : (2147483587 : Int) ≠ 0 := by decide
      refine ⟨_, rfl, p, _, _, _, rfl, rfl, SqL.mk hp, ix1, _, _, rfl, rfl, .inl hb31, _, _, rfl, rfl, .inl ⟨_, rfl, _, _, rfl, rfl, n87, ?_⟩⟩
      have c0 := Int.fmod_nonneg_of_pos (b * 39373 + 7577) (b := 2147483587) (by decide)
      have c1 := Int.fmod_lt_of_pos (b * 39373 + 7577) (b := 2147483587) (by decide)
      show gSub (tVar 0) (tC (.int 1)) rSetL (.int ((b * 39373 + 7577).fmod 2147483587)) _ _ _
      revert c0 c1
      generalize (b * 39373 + 7577).fmod 2147483587 = c
      intro c0 c1
      have hc31 : (-(2 ^ 64 : Int) < c ∧ c < 2 ^ 64) := ⟨by omega, by omega⟩
      refine ⟨_, rfl, p, _, 1, 1, rfl, rfl, hp, rfl, ?_⟩
      have hp2 : upd H p (.lst ([V.int a, V.int b].set 1 (.int c))) p = some (.lst [.int a, .int c]) := upd_same
      have iy1 : atI [V.int a, V.int c] 1 = some (.int c) := rfl
      refine ⟨_, rfl, p, _, _, _, rfl, rfl, SqL.mk hp2, iy1, _, rfl, p, _, _, _, rfl, rfl, SqL.mk hp2, iy1, _, _, rfl, rfl, .inl hc31, ?_⟩
      refine .inl ⟨_, rfl, _, _, rfl, rfl, (show (2147483563 : Int) ≠ 0 by decide), _, _, rfl, rfl, (show ((19 : Int) ≠ 0 ∧ (19 : Int).natAbs < 1073741824) by decide), .inl ⟨_, rfl, _, rfl, _, _, rfl, rfl, (show m ≠ 0 by omega), ?_⟩⟩
      refine q _ _ ⟨fun d o ed => ?_, nD, a, c, ha, c0, by omega, hp2⟩ (Int.fmod_nonneg_of_pos _ (by omega)) (Int.fmod_lt_of_pos _ (by omega))
      rw [upd_ne (ne_of_none ed nD)]
      exact sD _ _ ed
end
end G0

namespace G0
open PySem PySem.Spec PyProof.Rows L2
abbrev s_point : Stmt := top 36
abbrev s_given : Stmt := top 37
abbrev s_great : Stmt := top 9999
theorem yes_ite {σ : L2.St} {H : Hp} {A B : Hp → Prop} (h : A H) : tYes σ H (fun b H3 => if b = true then A H3 else B H3) := iteT (B := B H) h
theorem Wd.put {p q : Addr} {D H : Hp} {o o' : HO} (w : Wd p (upd D q o) H) (h0 : D q = none) (hp : q ≠ p) : Wd p D (upd H q o') := by
  obtain ⟨s, n, a, b, h1, h2, h3, h4⟩ := w
  rw [upd_ne hp.symm] at n
  refine ⟨fun c u e => ?_, n, a, b, h1, h2, h3, ?_⟩
  · have nc := ne_of_none e h0
    rw [upd_ne nc]
    exact s _ _ (by rw [upd_ne nc]; exact e)
  · rw [upd_ne hp.symm]
    exact h4
/-- what a helper that draws hands back -/
def Gets (p : Addr) (D : Hp) (R : V → Hp → Prop) (Q : VK) : Prop := ∀ v D' H', Same D D' → Wd p D' H' → R v D' → Q v H'
/-- three ints in a list, not all 0, none beyond the bound -/
def Trip (m : Int) (v : V) (D : Hp) : Prop := ∃ q a b c, v = .ref q ∧ D q = some (.lst ([a, b, c].map V.int)) ∧ (∃ n ∈ [a, b, c], n ≠ 0) ∧ ∀ n ∈ [a, b, c], -m ≤ n ∧ n ≤ m
section
variable {P : Program} {w : World} {K : PySem.W.Frag} {mg : Str → Option Value} {base : Heap}
/-! _law_pick -/
def sp_pick (K : PySem.W.Frag) : Sp := fun vs H Q _ => ∃ (p l : Addr) (D : Hp) (us : List V), vs = [.ref p, .ref l] ∧ Wd p D H ∧ SqL K D l us ∧ 1 ≤ us.length ∧ us.length < 1000000 ∧ ∀ (H' : Hp) (v : V), Wd p D H' → v ∈ us → Q v H'
theorem sc_pick : FnScope ["_law_pot_here", "_law_some"] ["_law_pot_here", "_law_some"] (defScope s_pick) := ⟨rfl, rfl, rfl, by decide +kernel, rfl, by decide +kernel, by decide +kernel⟩
theorem ok_pick {f f1 : Addr} {fd fd1 : FuncData} (F : Fun K "_law_pick" "_law_pick" s_pick f fd) (B : Blt mg) (D1 : Df K mg "_law_draw" s_draw ["_law_pot_here", "_law_many"] f1 fd1) (G1 : FnOk P w K mg base CX0 1 f1 fd1 ["_law_pot_here", "_law_many"] sp_draw) :
    FnOk P w K mg base CX0 2 f fd ["_law_pot_here", "_law_some"] (sp_pick K) := by
  refine F.ok sc_pick (fun vs H Q E h => ?_) (fun cdv A outer s H vs Q E hr h => ?_)
  · obtain ⟨p, l, D, us, rfl, _⟩ := h
    rfl
  · obtain ⟨p, l, D, us, rfl, wd, hs, l1, l2, q⟩ := h
    refine ⟨_, pss_one (ps_ret (pe_ix ix_list (pv 1) (pdf D1 G1 hr (pa_cons (pv 0) (pa_cons (pe_callB call_len_seq (by rfl) B.len PySem.boot_len (pa_cons (pv 1) pa_nil)) pa_nil))) (fun _ _ => rfl))), ?_⟩
    refine ⟨_, rfl, _, rfl, _, rfl, l, us, rfl, .inl (wd.s.seq hs), p, _, D, rfl, wd, by omega, by omega, fun H' d wd' d0 d1 => ?_⟩
    obtain ⟨j, rfl⟩ := Int.eq_ofNat_of_zero_le d0
    have hj : j < us.length := by omega
    exact ⟨l, us, _, us[j], rfl, rfl, wd'.s.seq hs, atI_nat (List.getElem?_eq_getElem hj), q _ _ wd' (List.getElem_mem hj)⟩

/-! _law_point -/
def sp_point : Sp := fun vs H Q _ => ∃ (p : Addr) (m : Int) (D : Hp), vs = [.ref p, .int m] ∧ Wd p D H ∧ 1 ≤ m ∧ m < 1000000 ∧ Gets p D (Trip m) Q
theorem sc_point : FnScope ["_law_pot_here", "_law_most", "_law_found", "_law_at"] ["_law_pot_here", "_law_most"] (defScope s_point) := ⟨rfl, rfl, rfl, by decide +kernel, rfl, by decide +kernel, by decide +kernel⟩
theorem three_of {ns : List Int} (h : ns.length = 3) : ∃ a b c, ns = [a, b, c] := by
  match ns, h with
  | [a, b, c], _ => exact ⟨a, b, c, rfl⟩
theorem anyB {ns : List Int} : (ns.any fun n => n != 0) = true ↔ ∃ n ∈ ns, n ≠ 0 := by
  rw [List.any_eq_true]
  constructor
  · rintro ⟨n, hn, e⟩
    exact ⟨n, hn, by simpa using e⟩
  · rintro ⟨n, hn, e⟩
    exact ⟨n, hn, by simpa using e⟩
theorem ok_point {f f1 : Addr} {fd fd1 : FuncData} (F : Fun K "_law_point" "_law_point" s_point f fd) (B : Blt mg) (D1 : Df K mg "_law_draw" s_draw ["_law_pot_here", "_law_many"] f1 fd1) (G1 : FnOk P w K mg base CX0 1 f1 fd1 ["_law_pot_here", "_law_many"] sp_draw) :
    FnOk P w K mg base CX0 2 f fd ["_law_pot_here", "_law_most"] sp_point := by
  refine F.ok sc_point (fun vs H Q E h => ?_) (fun cdv A outer s H vs Q E hr h => ?_)
  · obtain ⟨p, m, D, rfl, _⟩ := h
    rfl
  · obtain ⟨p, m, D, rfl, wd, m1, m2, q⟩ := h
    refine ⟨_, pss_cons (ps_setLc (i := 2) (own := [("_law_at", 3)]) (g := gName 3) (tt := tYes) rfl sc_point.nd rfl rfl (sw_true rfl rfl rfl (by decide +kernel)) (pi_range1 (by rfl) B.range (pa_cons pe_int pa_nil))
        (blkOk_by (N := ["_law_pot_here", "_law_most", "_law_found", "_law_at"]) (sc := defScope s_point) (by decide +kernel)) (fun _ _ _ _ _ => pg_name (i := 3) sc_point.nd rfl (Or.inl rfl)) (fun _ _ _ _ _ => pts_nil)
        (fun _ _ _ _ _ => pe_op op_sub (pdf D1 G1 hr (pa_cons (pv 0) (pa_cons (pe_op op_add (pe_op op_mul pe_int (pv 1)) pe_int) pa_nil))) (pv 1)))
      (pss_one (ps_ret (pe_ifExp (pt_val (pe_callB (cr_anyI rfl) (by rfl) B.any boot_any (pa_cons (pv 2) pa_nil))) (pv 2) (pe_lst (pa_cons pe_int (pa_cons pe_int (pa_cons (pe_op op_sub pe_int (pv 1)) pa_nil))))))), ?_⟩
    refine ⟨3, rfl, by decide, by decide, fun L hL => ?_⟩
    have L0 := wd.s.free hL
    have Lp := wd.ne hL
    refine lc_range (n := 3) (fun i H1 => ∃ acc : List Int, acc.length = i ∧ (∀ n ∈ acc, -m ≤ n ∧ n ≤ m) ∧ Wd p D H1 ∧ H1 L = some (.lst (acc.map V.int))) ⟨[], rfl, (fun _ z => nomatch z), ⟨fun b o e => ?_, wd.n, ?_⟩, upd_same⟩ ?_ ?_
    · rw [upd_ne (ne_of_none e L0)]
      exact wd.s _ _ e
    · obtain ⟨a, b, h1, h2, h3, h4⟩ := wd.pot
      exact ⟨a, b, h1, h2, h3, by rw [upd_ne Lp.symm]; exact h4⟩
    · rintro i H1 hi ⟨acc, el, hb, w1, h1⟩
      refine ⟨rfl, yes_ite ?_⟩
      refine ⟨_, rfl, _, rfl, _, _, rfl, rfl, .inl ⟨by decide, by decide⟩, _, _, rfl, rfl, p, _, _, rfl, w1.got L0 Lp h1, by omega, by omega, fun H2 d w2 d0 d1 => ?_⟩
      refine ⟨_, rfl, _, _, rfl, rfl, _, w2.s _ _ upd_same, ?_, acc ++ [d - m], ?_, ?_, w2.put L0 Lp, ?_⟩
      · rw [List.length_map]
        exact Nat.lt_of_lt_of_le (show acc.length < 3 by omega) (by decide)
      · rw [List.length_append, el]
        rfl
      · intro n hn
        rcases List.mem_append.mp hn with hn | hn
        · exact hb n hn
        · obtain rfl := List.mem_singleton.mp hn
          omega
      · rw [upd_same, List.map_append]
        rfl
    · rintro H1 ⟨acc, el, hb, w1, h1⟩
      obtain ⟨a, b, c, rfl⟩ := three_of el
      refine ⟨_, rfl, L, _, rfl, .inl (SqL.mk h1), _, rfl, ?_⟩
      have w2 := w1.got L0 Lp h1
      refine ite2 (fun e => ?_) (fun e => ?_)
      · exact ⟨_, rfl, q _ _ _ (same_new L0) w2 ⟨L, a, b, c, rfl, upd_same, anyB.mp e, hb⟩⟩
      · refine ⟨_, rfl, _, _, rfl, rfl, by show 3 ≤ sizeLine; decide, fun t ht => ?_⟩
        obtain ⟨w3, s3, h3⟩ := w1.new (same_new ht) ht upd_same
        refine q _ _ _ s3 w3 ⟨t, 0, 1, 0 - m, rfl, h3, ⟨1, by simp, by decide⟩, fun n hn => ?_⟩
        simp only [List.mem_cons, List.not_mem_nil, or_false] at hn
        omega

/-! _law_given -/
def sp_given (K : PySem.W.Frag) : Sp := fun vs H Q _ => ∃ (p l : Addr) (D : Hp) (us : List V), vs = [.ref p, .ref l] ∧ Wd p D H ∧ SqL K D l us ∧ Gets p D (fun v D' => ∃ q, v = .ref q ∧ Sq K D' q us ∧ D q = none) Q
theorem sc_given : FnScope ["_law_pot_here", "_law_point_here"] ["_law_pot_here", "_law_point_here"] (defScope s_given) := ⟨rfl, rfl, rfl, by decide +kernel, rfl, by decide +kernel, by decide +kernel⟩
theorem ok_given {f f1 : Addr} {fd fd1 : FuncData} (F : Fun K "_law_given" "_law_given" s_given f fd) (B : Blt mg) (D1 : Df K mg "_law_draw" s_draw ["_law_pot_here", "_law_many"] f1 fd1) (G1 : FnOk P w K mg base CX0 1 f1 fd1 ["_law_pot_here", "_law_many"] sp_draw) :
    FnOk P w K mg base CX0 2 f fd ["_law_pot_here", "_law_point_here"] (sp_given K) := by
  refine F.ok sc_given (fun vs H Q E h => ?_) (fun cdv A outer s H vs Q E hr h => ?_)
  · obtain ⟨p, l, D, us, rfl, _⟩ := h
    rfl
  · obtain ⟨p, l, D, us, rfl, wd, hs, q⟩ := h
    refine ⟨_, pss_one (ps_ret (pe_ifExp (pt_cmpR op_eq (pdf D1 G1 hr (pa_cons (pv 0) (pa_cons pe_int pa_nil))) pe_int (nomark _)) (pe_callTy call_tuple_of (by rfl) B.tuple boot_ttuple (pa_cons (pv 1) pa_nil)) (pe_callTy call_list_of (by rfl) B.list boot_tlist (pa_cons (pv 1) pa_nil)))), ?_⟩
    refine ⟨_, rfl, p, 2, D, rfl, wd, by decide, by decide, fun H1 d w1 d0 d1 => ⟨rfl, _, rfl, ?_⟩⟩
    refine ite2 (fun e => ?_) (fun e => ?_)
    · refine ⟨_, rfl, l, us, rfl, .inl ⟨w1.s.seq hs, fun t ht => ?_⟩⟩
      obtain ⟨w3, s3, h3⟩ := w1.new (same_new ht) ht upd_same
      exact q _ _ _ s3 w3 ⟨t, rfl, .inr (SqT.mk h3), w1.s.free ht⟩
    · refine ⟨_, rfl, l, us, rfl, .inl (w1.s.seq hs), fun t ht => ?_⟩
      obtain ⟨w3, s3, h3⟩ := w1.new (same_new ht) ht upd_same
      exact q _ _ _ s3 w3 ⟨t, rfl, .inl (SqL.mk h3), w1.s.free ht⟩
end
end G0

namespace G0
open PySem PySem.Spec PyProof.Rows L2
abbrev s_common : Stmt := top 34
abbrev s_told : Stmt := top 35
section
variable {P : Program} {w : World} {K : PySem.W.Frag} {mg : Str → Option Value} {base : Heap}
/-! _law_common: the greatest common divisor, by Euclid -/
theorem gcd_step {f o : Int} (hf : 0 ≤ f) (ho : 0 < o) : 0 ≤ f.fmod o ∧ f.fmod o < o ∧ Nat.gcd o.natAbs (f.fmod o).natAbs = Nat.gcd f.natAbs o.natAbs := by
  have h1 := Int.fmod_nonneg_of_pos f ho
  have h2 := Int.fmod_lt_of_pos f ho
  refine ⟨h1, h2, ?_⟩
  rw [Int.fmod_eq_emod_of_nonneg _ (by omega)]
  have e : (f % o).natAbs = f.natAbs % o.natAbs := Int.natAbs_emod_of_nonneg hf _
  rw [e, Nat.gcd_comm, ← Nat.gcd_rec, Nat.gcd_comm]
def sp_common (K : PySem.W.Frag) : Sp := fun vs H Q _ => ∃ (p : Addr) (ns : List Int), vs = [.ref p] ∧ SqL K H p (ns.map V.int) ∧ Q (.int (gcdL ns)) H
theorem sc_common : FnScope ["_law_numbers", "_law_found", "_law_number", "_law_other"] ["_law_numbers"] (defScope s_common) := ⟨rfl, rfl, rfl, by decide +kernel, rfl, by decide +kernel, by decide +kernel⟩
theorem ok_common {f : Addr} {fd : FuncData} (F : Fun K "_law_common" "_law_common" s_common f fd) (B : Blt mg) : FnOk P w K mg base CX0 1 f fd ["_law_numbers"] (sp_common K) := by
  refine F.ok sc_common (fun vs H Q E h => ?_) (fun cdv A outer s H vs Q E hr h => ?_)
  · obtain ⟨p, ns, rfl, _⟩ := h
    rfl
  · obtain ⟨p, ns, rfl, hs, q⟩ := h
    refine ⟨_, pss_cons (ps_set (i := 1) sc_common.nd rfl (Or.inl rfl) pe_int) (pss_cons (ps_for PassesOwn.never rfl (pi_list (pv 0)) (pg_name (i := 2) sc_common.nd rfl (Or.inl rfl))
        (pss_cons (ps_set (i := 3) sc_common.nd rfl (Or.inl rfl) (pe_callB call_abs (by rfl) B.abs boot_abs (pa_cons (pv 2) pa_nil)))
          (pss_one (ps_while PassesOwn.never (pt_cmpR op_gt (pv 3) pe_int (nomark _))
            (pss_one (ps_par (i := 1) (j := 3) rfl sc_common.nd rfl rfl (by decide) rfl rfl (pa_cons (pv 3) (pa_cons (pe_op op_modN (pe_callTy call_int1 (by rfl) B.int boot_tint (pa_cons (pv 1) pa_nil)) (pv 3)) pa_nil)) (by rfl))))))) (pss_one (ps_ret (pv 1)))), ?_⟩
    refine ⟨_, rfl, p, rfl, ⟨_, hs⟩, for_list (K := K) (a := p) (xs := ns.map V.int) (fun i σ H1 => ∃ y z, σ = [some (.ref p), some (.int (gcdL (ns.take i))), y, z] ∧ H1 = H) ⟨none, none, rfl, rfl⟩ ?_ ?_ ?_⟩
    · rintro i σ H1 _ ⟨y, z, rfl, rfl⟩
      exact hs
    · rintro i x σ H1 hx ⟨y, z, rfl, rfl⟩
      obtain ⟨n, hn, rfl⟩ := at_int hx
      refine ⟨_, rfl, _, rfl, ?_⟩
      have g0 := gcdL_nonneg (ns.take i)
      have an : (0 : Int) ≤ (if n < 0 then -n else n) ∧ (if n < 0 then -n else n).natAbs = n.natAbs := by split <;> omega
      refine while_by (fun σ H2 => ∃ f o : Int, σ = [some (.ref p), some (.int f), some (.int n), some (.int o)] ∧ H2 = H1 ∧ 0 ≤ f ∧ 0 ≤ o ∧ Nat.gcd f.natAbs o.natAbs = Nat.gcd (gcdL (ns.take i)).natAbs n.natAbs)
        (fun σ _ => match σ with | [_, _, _, some (.int o)] => o.toNat | _ => 0) ⟨_, _, rfl, rfl, g0, an.1, by rw [an.2]⟩ ?_ ?_
      · rintro σ H2 ⟨f, o, rfl, rfl, f0, o0, eg⟩
        refine ⟨_, rfl, _, _, rfl, rfl, _, rfl, ?_⟩
        refine ite2 (fun e => ?_) (fun e => ?_)
        · have op : 0 < o := of_decide_eq_true e
          obtain ⟨s1, s2, s3⟩ := gcd_step f0 op
          refine ⟨_, rfl, _, rfl, .inl ⟨_, rfl, _, rfl, _, _, rfl, rfl, (show o ≠ 0 by omega), ?_⟩⟩
          refine ⟨_, _, rfl, ⟨_, _, rfl, rfl, o0, s1, s3.trans eg⟩, ?_⟩
          show (f.fmod o).toNat < o.toNat
          omega
        · have oz : o = 0 := by
            have : ¬ 0 < o := fun z => e (decide_eq_true z)
            omega
          subst oz
          refine ⟨some (.int n), some (.int 0), ?_, rfl⟩
          rw [gcdL_take hn, ← eg]
          have : ((Nat.gcd f.natAbs (0 : Int).natAbs : Nat) : Int) = f := by
            show ((Nat.gcd f.natAbs 0 : Nat) : Int) = f
            rw [Nat.gcd_zero_right]
            omega
          rw [this]
      · rintro σ H2 Q1 Q2 h12 ⟨v, e1, i1, j1, e2, e3, k1, e4, q1⟩
        exact ⟨v, e1, i1, j1, e2, e3, k1, e4, h12 _ _ q1⟩
    · rintro σ H1 ⟨y, z, rfl, rfl⟩
      rw [List.length_map, List.take_length]
      exact ⟨_, rfl, q⟩
/-! _law_told: the told point, reckoned otherwise -/
theorem dvd_fdiv {g n : Int} (hg : 0 < g) (h : g ∣ n) : ∃ k, n = g * k ∧ n.fdiv g = k ∧ n.fdiv (-g) = -k := by
  obtain ⟨k, rfl⟩ := h
  refine ⟨k, rfl, Int.mul_fdiv_cancel_left k (by omega), ?_⟩
  have e : g * k = -g * -k := by rw [Int.neg_mul_neg]
  rw [e]
  exact Int.mul_fdiv_cancel_left (-k) (by omega)
theorem nz_map {d : Int → Int} : ∀ {ns : List Int}, (∀ n ∈ ns, d n = 0 ↔ n = 0) → nz (ns.map d) = (nz ns).map d
  | [], _ => rfl
  | n :: ns, h => by
    have ih := nz_map (d := d) (ns := ns) fun m hm => h m (List.mem_cons_of_mem _ hm)
    have e := h n List.mem_cons_self
    unfold nz at ih ⊢
    by_cases h0 : n = 0
    · have h1 : d n = 0 := e.mpr h0
      rw [List.map_cons, List.filter_cons_of_neg (by simp [h1]), List.filter_cons_of_neg (by simp [h0]), ih]
    · have h1 : d n ≠ 0 := fun z => h0 (e.mp z)
      rw [List.map_cons, List.filter_cons_of_pos (by simp [h1]), List.filter_cons_of_pos (by simp [h0]), ih, List.map_cons]
structure ToldBy (ns : List Int) : Prop where
  nz : ∃ n ∈ ns.map (fun n => n.fdiv (gcdL ns)), n ≠ 0
  pos : 0 < firstN (ns.map fun n => n.fdiv (gcdL ns)) → ns.map (fun n => n.fdiv (gcdL ns)) = plainI ns
  neg : ¬ 0 < firstN (ns.map fun n => n.fdiv (gcdL ns)) → (ns.map fun n => n.fdiv (gcdL ns)).map (fun n => 0 - n) = plainI ns
theorem told_by {ns : List Int} (h : ∃ n ∈ ns, n ≠ 0) : ToldBy ns := by
  have gp := gcdL_pos h
  have z : ∀ n ∈ ns, n.fdiv (gcdL ns) = 0 ↔ n = 0 := by
    intro n hn
    obtain ⟨k, e1, e2, _⟩ := dvd_fdiv gp (gcdL_dvd hn)
    rw [e2]
    constructor
    · intro ek
      rw [e1, ek, Int.mul_zero]
    · intro en
      rw [en] at e1
      rcases Int.mul_eq_zero.mp e1.symm with e | e
      · omega
      · exact e
  obtain ⟨h0, hm, hne⟩ := nz_head h
  have ef : firstN (ns.map fun n => n.fdiv (gcdL ns)) = (firstN ns).fdiv (gcdL ns) := by
    have e1 : (nz (ns.map fun n => n.fdiv (gcdL ns)))[0]? = some ((firstN ns).fdiv (gcdL ns)) := by
      rw [nz_map z, List.getElem?_map, h0]
      rfl
    obtain ⟨n, hn, hn0⟩ := h
    have e2 := (nz_head (ns := ns.map fun n => n.fdiv (gcdL ns)) ⟨_, List.mem_map.mpr ⟨n, hn, rfl⟩, fun q => hn0 ((z n hn).mp q)⟩).1
    exact Option.some.inj (e2.symm.trans e1)
  obtain ⟨k, e1, e2, _⟩ := dvd_fdiv gp (gcdL_dvd hm)
  refine ⟨?_, fun hp => ?_, fun hp => ?_⟩
  · exact ⟨_, List.mem_map.mpr ⟨firstN ns, hm, rfl⟩, fun q => hne ((z _ hm).mp q)⟩
  · rw [ef, e2] at hp
    have : ¬ firstN ns < 0 := by
      rw [e1]
      have := Int.mul_pos gp hp
      omega
    unfold plainI signed
    rw [if_neg this]
  · rw [ef, e2] at hp
    have : firstN ns < 0 := by
      have h1 : k ≤ 0 := by omega
      have h2 : firstN ns ≤ 0 := by
        rw [e1]
        exact Int.mul_nonpos_of_nonneg_of_nonpos (by omega) h1
      omega
    unfold plainI signed
    rw [if_pos this, List.map_map]
    refine List.map_congr_left fun n hn => ?_
    obtain ⟨k, _, e2, e3⟩ := dvd_fdiv gp (gcdL_dvd hn)
    show 0 - n.fdiv (gcdL ns) = n.fdiv (-gcdL ns)
    rw [e2, e3]
    omega
end
end G0

namespace G0
open PySem PySem.Spec PyProof.Rows L2
section
variable {P : Program} {w : World} {K : PySem.W.Frag} {mg : Str → Option Value} {base : Heap}
/-! _law_told -/
def sp_told (K : PySem.W.Frag) : Sp := fun vs H Q _ => ∃ (p : Addr) (ns : List Int), vs = [.ref p] ∧ SqL K H p (ns.map V.int) ∧ (∃ n ∈ ns, n ≠ 0) ∧ (∀ n ∈ ns, n.natAbs < 2 ^ 30) ∧ ns.length ≤ 1000 ∧ ∀ H' t, Same H H' → H t = none → H' t = some (.tup ((plainI ns).map V.int)) → Q (.ref t) H'
theorem sc_told : FnScope ["_law_point_here", "_law_shared", "_law_found", "_law_first", "_law_number"] ["_law_point_here"] (defScope s_told) := ⟨rfl, rfl, rfl, by decide +kernel, rfl, by decide +kernel, by decide +kernel⟩
theorem ok_told {f f1 : Addr} {fd fd1 : FuncData} (F : Fun K "_law_told" "_law_told" s_told f fd) (B : Blt mg) (D1 : Df K mg "_law_common" s_common ["_law_numbers"] f1 fd1) (G1 : FnOk P w K mg base CX0 1 f1 fd1 ["_law_numbers"] (sp_common K)) : FnOk P w K mg base CX0 2 f fd ["_law_point_here"] (sp_told K) := by
  refine F.ok sc_told (fun vs H Q E h => ?_) (fun cdv A outer s H vs Q E hr h => ?_)
  · obtain ⟨p, ns, rfl, _⟩ := h
    rfl
  · obtain ⟨p, ns, rfl, hs, hz, hb, hl, q⟩ := h
    have gp := gcdL_pos hz
    obtain ⟨tz, tp, tn⟩ := told_by hz
    have hg : (gcdL ns).natAbs < 1073741824 := by
      obtain ⟨n, hn, h0⟩ := hz
      have := gcdL_le hn h0
      have := hb n hn
      have e30 : (2 : Nat) ^ 30 = 1073741824 := rfl
      omega
    have hlen : (ns.map V.int).length < sizeLine := by
      rw [List.length_map]
      exact Nat.lt_of_le_of_lt hl (by decide)
    refine ⟨_, pss_cons (ps_set (i := 1) sc_told.nd rfl (Or.inr rfl) (pdf D1 G1 hr (pa_cons (pv 0) pa_nil)))
      (pss_cons (ps_set (i := 2) sc_told.nd rfl (Or.inl rfl) (pe_callTy call_tuple_of (by rfl) B.tuple boot_ttuple (pa_cons (pe_lc (own := [("_law_number", 4)]) (g := gName 4) (tt := tYes) rfl sc_told.nd (pi_list (pv 0)) (blkOk_by (N := ["_law_point_here", "_law_shared", "_law_found", "_law_first", "_law_number"]) (sc := defScope s_told) (by decide +kernel)) (fun _ _ _ _ _ => pg_name (i := 4) sc_told.nd rfl (Or.inl rfl))
          (fun _ _ _ _ _ => pts_nil) (fun _ _ _ _ _ => pe_op op_fdivN (pe_callTy call_int1 (by rfl) B.int boot_tint (pa_cons (pv 4) pa_nil)) (pv 1))) pa_nil)))
      (pss_cons (ps_set (i := 3) sc_told.nd rfl (Or.inl rfl) (pe_ix ix_list (pe_lc (own := [("_law_number", 4)]) (g := gName 4) rfl sc_told.nd (pi_tup (pv 2)) (blkOk_by (N := ["_law_point_here", "_law_shared", "_law_found", "_law_first", "_law_number"]) (sc := defScope s_told) (by decide +kernel)) (fun _ _ _ _ _ => pg_name (i := 4) sc_told.nd rfl (Or.inl rfl))
          (fun _ _ _ _ _ => pts_one (pt_cmpR op_ne (pv 4) pe_int (nomark _))) (fun _ _ _ _ _ => pv 4)) pe_int (fun _ _ => rfl)))
      (pss_one (ps_ret (pe_ifExp (pt_cmpR op_gt (pv 3) pe_int (nomark _)) (pv 2) (pe_callTy call_tuple_of (by rfl) B.tuple boot_ttuple (pa_cons (pe_lc (own := [("_law_number", 4)]) (g := gName 4) (tt := tYes) rfl sc_told.nd (pi_tup (pv 2)) (blkOk_by (N := ["_law_point_here", "_law_shared", "_law_found", "_law_first", "_law_number"]) (sc := defScope s_told) (by decide +kernel)) (fun _ _ _ _ _ => pg_name (i := 4) sc_told.nd rfl (Or.inl rfl))
          (fun _ _ _ _ _ => pts_nil) (fun _ _ _ _ _ => pe_op op_sub pe_int (pv 4))) pa_nil))))))), ?_⟩
    refine ⟨_, rfl, p, ns, rfl, hs, ?_⟩
    -- found = tuple([int(n) // shared for n in point])
    let F1 : V → Option V := fun x => match x with | .int n => some (.int (n.fdiv (gcdL ns))) | _ => none
    refine ⟨_, rfl, p, rfl, ⟨_, hs⟩, fun L1 hL1 => lcL F1 hs hlen hL1 (fun x hx H1 _ G N _ g2 => ?_) fun H1 s1 h1 => ?_⟩
    · obtain ⟨n, hn, rfl⟩ := mem_int hx
      refine ⟨rfl, yes_ite ?_⟩
      exact ⟨_, rfl, .inl ⟨_, rfl, _, rfl, _, _, rfl, rfl, ⟨by omega, hg⟩, g2 _ rfl _ (Same.refl _)⟩⟩
    have e1 : fm F1 (ns.map V.int) = (ns.map fun n => n.fdiv (gcdL ns)).map V.int := by
      rw [fm_ints (f := fun n => some (n.fdiv (gcdL ns))) (fun _ => rfl), fmap_some]
    rw [e1] at h1
    revert tz tp tn h1
    have hl2 : (ns.map fun n => n.fdiv (gcdL ns)).length = ns.length := List.length_map _
    revert hl2
    generalize (ns.map fun n => n.fdiv (gcdL ns)) = fs
    intro hl2 tz tp tn h1
    refine ⟨L1, _, rfl, .inl ⟨SqL.mk h1, fun t ht => ?_⟩⟩
    have s2 : Same H (upd H1 t (.tup (fs.map V.int))) := s1.trans (same_new ht)
    have ht2 : SqT K (upd H1 t (.tup (fs.map V.int))) t (fs.map V.int) := SqT.mk upd_same
    have hlen2 : (fs.map V.int).length < sizeLine := by
      rw [List.length_map, hl2]
      exact Nat.lt_of_le_of_lt hl (by decide)
    obtain ⟨hh, hmem, hne⟩ := nz_head tz
    -- first = [n for n in found if n != 0][0]
    let FN : V → Option V := fun x => match x with | .int n => if n ≠ 0 then some (.int n) else none | _ => none
    refine ⟨_, rfl, t, rfl, ⟨_, ht2⟩, fun L2 hL2 => lcT FN ht2 hlen2 hL2 (fun x hx H2 _ G N g1 g2 => ?_) fun H2 s3 h2 => ?_⟩
    · obtain ⟨n, hn, rfl⟩ := mem_int hx
      refine ⟨rfl, ?_⟩
      refine ⟨_, rfl, rfl, _, rfl, ?_⟩
      by_cases h0 : n = 0
      · subst h0
        exact g1 (by simp [FN]) _ (Same.refl _)
      · have hd : (!decide (V.int n = V.int 0)) = true := by simp [h0]
        rw [hd]
        exact iteT ⟨_, rfl, g2 _ (by simp [FN, h0]) _ (Same.refl _)⟩
    have at0 : atI (fm FN (fs.map V.int)) 0 = some (.int (firstN fs)) := by
      rw [fm_ints (f := fun n => if n ≠ 0 then some n else none) (fun n => by by_cases h0 : n = 0 <;> simp [FN, h0]), nz_fm]
      refine atI_nat (j := 0) ?_
      rw [List.getElem?_map, hh]
      rfl
    refine ⟨L2, _, 0, _, rfl, rfl, SqL.mk h2, at0, ?_⟩
    refine ⟨_, rfl, _, _, rfl, rfl, _, rfl, ?_⟩
    have ht3 := same_t s3 ht2
    refine ite2 (fun e => ?_) (fun e => ?_)
    · rw [tp (of_decide_eq_true e)] at ht3 ht2 s3
      refine ⟨_, rfl, ?_⟩
      refine q _ t (s2.trans ?_) (s1.free ht) ?_
      · rw [tp (of_decide_eq_true e)]
        exact s3
      · exact s3 _ _ upd_same
    · let F3 : V → Option V := fun x => match x with | .int n => some (.int (0 - n)) | _ => none
      refine ⟨_, rfl, t, rfl, ⟨_, ht3⟩, fun L3 hL3 => lcT F3 ht3 hlen2 hL3 (fun x hx H3 _ G N _ g2 => ?_) fun H3 s4 h3 => ?_⟩
      · obtain ⟨n, hn, rfl⟩ := mem_int hx
        refine ⟨rfl, yes_ite ?_⟩
        exact ⟨_, rfl, _, _, rfl, rfl, g2 _ rfl _ (Same.refl _)⟩
      have e3 : fm F3 (fs.map V.int) = (plainI ns).map V.int := by
        rw [fm_ints (f := fun n => some (0 - n)) (fun _ => rfl), fmap_some, tn fun z => e (decide_eq_true z)]
      rw [e3] at h3
      have s24 := (s2.trans s3).trans s4
      exact ⟨L3, _, rfl, .inl ⟨SqL.mk h3, fun u hu => q _ u (s24.trans (same_new hu)) (s24.free hu) upd_same⟩⟩
end
end G0

namespace G0
open PySem PySem.Spec PyProof.Rows L2
theorem gcd_scale (t : Int) : ∀ (ns : List Int) (c : Int), (ns.map fun n => t * n).foldl (fun c n => ((Nat.gcd c.natAbs n.natAbs : Nat) : Int)) ((t.natAbs : Int) * c) = (t.natAbs : Int) * ns.foldl (fun c n => ((Nat.gcd c.natAbs n.natAbs : Nat) : Int)) c
  | [], c => rfl
  | n :: ns, c => by
    rw [List.map_cons, List.foldl_cons, List.foldl_cons]
    have e : ((Nat.gcd ((t.natAbs : Int) * c).natAbs (t * n).natAbs : Nat) : Int) = (t.natAbs : Int) * ((Nat.gcd c.natAbs n.natAbs : Nat) : Int) := by
      rw [Int.natAbs_mul, Int.natAbs_mul, Int.natAbs_natCast, Nat.gcd_mul_left, Int.natCast_mul]
    rw [e]
    exact gcd_scale t ns _
theorem gcdL_scale (t : Int) (ns : List Int) : gcdL (ns.map fun n => t * n) = (t.natAbs : Int) * gcdL ns := by
  have := gcd_scale t ns 0
  rw [Int.mul_zero] at this
  exact this
theorem firstN_scale {t : Int} (ht : t ≠ 0) {ns : List Int} (h : ∃ n ∈ ns, n ≠ 0) : firstN (ns.map fun n => t * n) = t * firstN ns := by
  have z : ∀ n ∈ ns, t * n = 0 ↔ n = 0 := by
    intro n _
    constructor
    · intro e
      rcases Int.mul_eq_zero.mp e with e | e
      · exact absurd e ht
      · exact e
    · intro e
      rw [e, Int.mul_zero]
  obtain ⟨h0, _, _⟩ := nz_head h
  obtain ⟨n, hn, hn0⟩ := h
  have e1 : (nz (ns.map fun n => t * n))[0]? = some (t * firstN ns) := by
    rw [nz_map z, List.getElem?_map, h0]
    rfl
  have e2 := (nz_head (ns := ns.map fun n => t * n) ⟨_, List.mem_map.mpr ⟨n, hn, rfl⟩, fun q => hn0 ((z n hn).mp q)⟩).1
  exact Option.some.inj (e2.symm.trans e1)
theorem signed_scale {t : Int} (ht : t ≠ 0) {ns : List Int} (h : ∃ n ∈ ns, n ≠ 0) : signed (ns.map fun n => t * n) = t * signed ns := by
  have ef := firstN_scale ht h
  have fne := (nz_head h).2.2
  unfold signed
  rw [ef, gcdL_scale]
  by_cases tp : 0 < t
  · have e : (t.natAbs : Int) = t := by omega
    rw [e]
    by_cases fp : firstN ns < 0
    · rw [if_pos fp, if_pos (Int.mul_neg_of_pos_of_neg tp fp), Int.mul_neg]
    · have : ¬ t * firstN ns < 0 := by
        have := Int.mul_pos tp (show 0 < firstN ns by omega)
        omega
      rw [if_neg fp, if_neg this]
  · have tn : t < 0 := by omega
    have e : (t.natAbs : Int) = -t := by omega
    rw [e]
    by_cases fp : firstN ns < 0
    · have : ¬ t * firstN ns < 0 := by
        have := Int.mul_pos_of_neg_of_neg tn fp
        omega
      rw [if_pos fp, if_neg this, Int.neg_mul, Int.mul_neg]
    · have : t * firstN ns < 0 := Int.mul_neg_of_neg_of_pos tn (by omega)
      rw [if_neg fp, if_pos this, Int.neg_mul, Int.neg_neg]
theorem signed_ne {ns : List Int} (h : ∃ n ∈ ns, n ≠ 0) : signed ns ≠ 0 := by
  have := gcdL_pos h
  unfold signed
  split <;> omega
theorem signed_dvd {ns : List Int} {n : Int} (h : n ∈ ns) : signed ns ∣ n := by
  unfold signed
  split
  · exact Int.neg_dvd.mpr (gcdL_dvd h)
  · exact gcdL_dvd h
/-- told alike, whatever multiple -/
theorem plainI_scale {t : Int} (ht : t ≠ 0) {ns : List Int} (h : ∃ n ∈ ns, n ≠ 0) : plainI (ns.map fun n => t * n) = plainI ns := by
  unfold plainI
  rw [signed_scale ht h, List.map_map]
  refine List.map_congr_left fun n hn => ?_
  obtain ⟨k, hk⟩ := signed_dvd hn
  have c0 := signed_ne h
  show (t * n).fdiv (t * signed ns) = n.fdiv (signed ns)
  rw [hk, Int.mul_fdiv_cancel_left k c0, ← Int.mul_assoc]
  exact Int.mul_fdiv_cancel_left k (fun e => by
    rcases Int.mul_eq_zero.mp e with e | e
    · exact ht e
    · exact c0 e)
theorem plainI_back {ns : List Int} (h : ∃ n ∈ ns, n ≠ 0) : (plainI ns).map (fun n => signed ns * n) = ns := by
  unfold plainI
  rw [List.map_map]
  have : ∀ n ∈ ns, ((fun n => signed ns * n) ∘ fun n => n.fdiv (signed ns)) n = n := by
    intro n hn
    obtain ⟨k, hk⟩ := signed_dvd hn
    have c0 := signed_ne h
    show signed ns * n.fdiv (signed ns) = n
    rw [hk, Int.mul_fdiv_cancel_left k c0]
  conv => rhs; rw [← List.map_id ns]
  exact List.map_congr_left this
theorem plainI_nz {ns : List Int} (h : ∃ n ∈ ns, n ≠ 0) : ∃ n ∈ plainI ns, n ≠ 0 := by
  refine Classical.byContradiction fun no => ?_
  have all0 : ∀ m ∈ plainI ns, m = 0 := fun m hm => Classical.byContradiction fun z => no ⟨m, hm, z⟩
  obtain ⟨n, hn, h0⟩ := h
  have hb := plainI_back ⟨n, hn, h0⟩
  rw [← hb] at hn
  obtain ⟨m, hm, e⟩ := List.mem_map.mp hn
  rw [all0 m hm, Int.mul_zero] at e
  exact h0 e.symm
theorem plainI_told {ns : List Int} (h : ∃ n ∈ ns, n ≠ 0) : plainI (plainI ns) = plainI ns := by
  have e := plainI_scale (signed_ne h) (plainI_nz h)
  rw [plainI_back h] at e
  exact e.symm
theorem plainI_le {ns : List Int} (h : ∃ n ∈ ns, n ≠ 0) {b : Nat} (hb : ∀ n ∈ ns, n.natAbs < b) : ∀ m ∈ plainI ns, m.natAbs < b := by
  intro m hm
  unfold plainI at hm
  obtain ⟨n, hn, rfl⟩ := List.mem_map.mp hm
  obtain ⟨k, hk⟩ := signed_dvd hn
  have c0 := signed_ne h
  have e : n.fdiv (signed ns) = k := by
    rw [hk]
    exact Int.mul_fdiv_cancel_left k c0
  have := hb n hn
  rw [e]
  refine Nat.lt_of_le_of_lt ?_ this
  rw [hk, Int.natAbs_mul]
  exact Nat.le_mul_of_pos_left _ (Int.natAbs_pos.mpr c0)
theorem plainI_neg {ns : List Int} (h : ∃ n ∈ ns, n ≠ 0) : plainI (ns.map fun n => 0 - n) = plainI ns := by
  have e : (ns.map fun n => 0 - n) = ns.map fun n => -1 * n := List.map_congr_left fun n _ => by omega
  rw [e]
  exact plainI_scale (by decide) h
theorem plainI_len (ns : List Int) : (plainI ns).length = ns.length := List.length_map _
end G0

namespace G0
open PySem PySem.Spec PyProof.Rows L2
/-! ### own ==, != and repr of instances -/
structure EqOwn (K : PySem.W.Frag) (C f : Addr) : Prop where
  at_ : PySem.W.findIn K (.ref C) "__eq__" = some (some (.ref f))
  fn : PySem.W.isFn K (.ref f) = true
theorem inst_ty {X : Cx} {pins : List (Addr × Obj)} {σ : L2.St} {H : Hp} {s : Shared} {a C dx : Addr} {fs : List (Str × V)} (J : Inv X pins σ H s) (e : H a = some (.ins C dx fs)) : ∀ M : Model, PySem.W.Looks M s.heap (typeOf (.ref a)) (.ref C) := by
  obtain ⟨mA, O, _⟩ := ins_get J.hok e
  obtain ⟨od, I, _⟩ := O.look
  exact fun M => I.type
/-- what stands on the other side of an own == -/
inductive Other (K : PySem.W.Frag) (C : Addr) (H : Hp) : V → Prop where
  | own {b dy : Addr} {gs : List (Str × V)} (h : H b = some (.ins C dy gs)) : Other K C H (.ref b)
  | lst {b : Addr} {xs : List V} (h : SqL K H b xs) (n : PySem.W.notFirst K C (.type "list") = true) : Other K C H (.ref b)
  | tup {b : Addr} {xs : List V} (h : SqT K H b xs) (n : PySem.W.notFirst K C (.type "tuple") = true) : Other K C H (.ref b)
theorem Other.looks {X : Cx} {pins : List (Addr × Obj)} {σ : L2.St} {H : Hp} {s : Shared} {C : Addr} {y : V} {v : Value} (J : Inv X pins σ H s) (o : Other X.K C H y) (r : RelV y v) : ∃ tb, (∀ M : Model, PySem.W.Looks M s.heap (typeOf v) tb) ∧ PySem.W.notFirst X.K C tb = true := by
  cases o with
  | own h =>
    cases r
    exact ⟨_, inst_ty J h, by simp [PySem.W.notFirst]⟩
  | lst h n =>
    obtain ⟨P, Z, p, _⟩ := kit_of J r (ty_l h)
    exact ⟨_, fun M => Z.ty M _ J.kIn p, n⟩
  | tup h n =>
    obtain ⟨P, Z, p, _⟩ := kit_of J r (ty_t h)
    exact ⟨_, fun M => Z.ty M _ J.kIn p, n⟩
def rEqOwn (K : PySem.W.Frag) (C : Addr) (sp : Sp) (E : XK) : R2 := fun x y H Q => ∃ a dx fs, x = .ref a ∧ H a = some (.ins C dx fs) ∧ Other K C H y ∧ sp [x, y] H (fun v H' => ∃ r, v = .bl r ∧ Q (.bl r) H') E
theorem op_eqOwn {X : Cx} {k : Nat} {C f : Addr} {fd : FuncData} {ps : List Str} {sp : Sp} {E : XK} (F : FnOk X.prog X.w X.K X.mg X.base CX0 k f fd ps sp) (own : EqOwn X.K C f) (room : Room k X.A) (bn : Binds X.K fd ps []) : OpR X (compareOp .Eq) (rEqOwn X.K C sp E) := by
  intro pins s σ H x y v u Q J rx ry want
  obtain ⟨a, dx, fs, rfl, ha, oth, want⟩ := want
  cases rx
  obtain ⟨tb, looks, nf⟩ := oth.looks J ry
  obtain ⟨mA, O, _⟩ := ins_get J.hok ha
  obtain ⟨od, I, _⟩ := O.look
  obtain ⟨m, hF⟩ := J.fr
  refine PySem.W.cmp_K (op := .Eq) (tb := tb) room.units0 hF J.ok.mod.kin I (looks _) nf own.at_ own.fn ?_
  refine wpAny_mono (run_fn (us := [.ref a, u]) (vs := [.ref a, y]) (dvs := []) F room bn .nil (fun _ _ _ _ _ _ _ z => z.elim) J (.cons rfl (.cons ry .nil)) (Q := fun v H' => ∃ r, v = .bl r ∧ Q (.bl r) H') want) (fun r s2 got => ?_) fun _ _ z => z
  obtain ⟨v2, H2, J2, rv, b, rfl, q⟩ := got
  cases (show r = Value.bool b from rv)
  exact ⟨.bl b, H2, J2, rfl, q⟩
/-- != where no own one is written -/
structure NeOwn (K : PySem.W.Frag) (C f : Addr) : Prop where
  ex : ∃ (of : Obj) (nm q : Str) (N : Addr) (bs : List Value) (sn : List Str) (sub : List Value) (ab : Bool) (col : Option Bool) (dd : Option Addr) (k0 k1 k2 k3 k5 : Option Value) (newId : String) (y : Option Value),
    K.lookup C = some (excClassObj nm q C N bs [.type "object"] true sn sub ab col dd k0 k1 k2 k3 k5 newId) ∧ PySem.W.nsOkIn K N = true ∧ PySem.W.nsIn K N "__eq__" = some (some (.ref f)) ∧ PySem.W.nsIn K N "__ne__" = some none ∧
    K.lookup f = some of ∧ of.cls = .type "function" ∧ typeLookup (.type "object") "__eq__" = pure y
theorem ns_some_of {K : PySem.W.Frag} {h : Heap} {N : Addr} {mN : Str → Option Value} {x : Str} {v : Value} (X : K.In h) (G : h.Ns N mN) (e : PySem.W.nsIn K N x = some (some v)) : mN x = some v := by
  obtain ⟨ob, es, ep, look, shape, _, finds⟩ := G
  unfold PySem.W.nsIn at e
  split at e
  · next c d es2 n2 sl here =>
    have same := X _ _ here
    rw [look] at same
    cases same
    cases shape
    split at e
    · next en found =>
      cases e
      rw [← finds]
      unfold nsFind findBy
      rw [← Array.find?_toList, found]
      rfl
    · split at e <;> cases e
  · cases e
theorem op_neOwn {X : Cx} {k : Nat} {C f : Addr} {fd : FuncData} {ps : List Str} {sp : Sp} {E : XK} (F : FnOk X.prog X.w X.K X.mg X.base CX0 k f fd ps sp) (own : NeOwn X.K C f) (room : Room (k + 1) X.A) (bn : Binds X.K fd ps []) :
    OpR X (compareOp .NotEq) (fun x y H Q => ∃ a b dx dy fs gs, x = .ref a ∧ y = .ref b ∧ H a = some (.ins C dx fs) ∧ H b = some (.ins C dy gs) ∧ sp [x, y] H (fun v H' => ∃ r, v = .bl r ∧ Q (.bl (!r)) H') E) := by
  intro pins s σ H x y v u Q J rx ry want
  obtain ⟨a, b, dx, dy, fs, gs, rfl, rfl, ha, hb, want⟩ := want
  cases rx
  cases ry
  obtain ⟨mA, O, _⟩ := ins_get J.hok ha
  obtain ⟨od, I, _⟩ := O.look
  obtain ⟨mB, O2, _⟩ := ins_get J.hok hb
  obtain ⟨od2, I2, _⟩ := O2.look
  obtain ⟨of, nm, q, N, bs, sn, sub, ab, col, dd, k0, k1, k2, k3, k5, newId, y, lC, okN, nE, nN, lf, cf, hB⟩ := own.ex
  have NsN : s.heap.Ns N (s.heap.nsMap N) := .of_isNs (PySem.W.isNs_of_in J.kIn okN)
  have facts : s.heap.OwnEqNoNe a C f "object" [.type "object"] := by
    refine ⟨_, of, nm, q, N, bs, true, sn, sub, ab, col, dd, k0, k1, k2, k3, k5, newId, s.heap.nsMap N, y, I.at_, I.cls, J.kIn _ _ lC, NsN, ?_, J.kIn _ _ lf, cf, PySem.F.mro_object, hB, ?_⟩
    · exact ns_some_of J.kIn NsN nE
    · exact PySem.W.ns_none_of J.kIn NsN nN
  have un := room.un
  refine compareOp_ne_ownEq PySem.F.cmp_object facts I2.at_ I2.cls (by omega) ?_
  have J0 : Inv X pins σ H s := J
  have e0 : Env0 X.prog X.w X.K X.mg X.base X.A.in1 X.stack s H := J.env0.in1
  have hl := F.len _ _ _ _ want
  have bnd : BindsTo s fd ⟨[.ref a, .ref b], []⟩ (ps.zip [.ref a, .ref b]) := by
    have := bn s [.ref a, .ref b] J.kIn (by simpa using hl)
    simpa using this
  refine wpAny_call (codeAny_mono (F.run X.A.in1 X.stack s H ⟨[.ref a, .ref b], []⟩ [.ref a, .ref b] [.ref a, .ref b] _ E room.in1 e0 bnd (.cons rfl (.cons rfl .nil)) want) fun res s2 got => ?_)
  match res, got with
  | .error _, got => exact got.elim
  | .ok .next, got => exact got.elim
  | .ok .brk, got => exact got.elim
  | .ok .cont, got => exact got.elim
  | .ok (.ret w), got =>
    obtain ⟨v2, H2, J2, rv, r, rfl, q2⟩ := J.after got
    cases (show w = Value.bool r from rv)
    exact ⟨r, rfl, .bl (!r), H2, J2, rfl, q2⟩
/-- repr(x), x an instance with the text's own __repr__ (where no repr is under way) -/
structure ReprOwn (K : PySem.W.Frag) (C f : Addr) : Prop where
  at_ : PySem.W.findIn K (.ref C) "__repr__" = some (some (.ref f))
  fn : PySem.W.isFn K (.ref f) = true
theorem call_reprOwn {X : Cx} {k : Nat} {C f : Addr} {fd : FuncData} {ps : List Str} {sp : Sp} (F : FnG X.prog X.w X.K X.mg X.base k f fd ps sp) (own : ReprOwn X.K C f) (gd : X.A.guards = some []) (room : Room (k + 1) X.A) (bn : Binds X.K fd ps []) :
    CallR X (.builtin "repr") (fun xs H Q => ∃ a dx fs, xs = [.ref a] ∧ H a = some (.ins C dx fs) ∧ sp xs H (fun v H' => ∃ z : Str, v = .str z ∧ Q (.str z) H') E0) := by
  intro pins s σ H xs us Q J rv want
  obtain ⟨a, dx, fs, rfl, ha, want⟩ := want
  obtain ⟨u, rfl, ru⟩ := vals1 rv
  cases ru
  obtain ⟨mA, O, _⟩ := ins_get J.hok ha
  obtain ⟨od, I, _⟩ := O.look
  obtain ⟨m, hF⟩ := J.fr
  have un := room.un
  refine PySem.W.repr_K (by show X.A.units + 1 < cLine; omega) hF J.ok.mod.kin I own.at_ own.fn ?_
  have hl := F.len _ _ _ _ want
  have bnd : BindsTo s fd ⟨[.ref a], []⟩ (ps.zip [.ref a]) := by
    have := bn s [.ref a] J.kIn (by simpa using hl)
    simpa using this
  refine wpAny_call (codeAny_mono (F.run X.A.in1 X.stack s H ⟨[.ref a], []⟩ [.ref a] [.ref a] _ E0 gd room.in1 J.env0.in1 bnd (.cons rfl .nil) want) fun res s2 got => ?_)
  match res, got with
  | .error _, got => exact got.elim
  | .ok .next, got => exact got.elim
  | .ok .brk, got => exact got.elim
  | .ok .cont, got => exact got.elim
  | .ok (.ret w), got =>
    obtain ⟨v2, H2, J2, rv, z, rfl, q2⟩ := J.after got
    obtain ⟨t, rfl⟩ := (show ∃ t, w = Value.str z t from rv)
    exact ⟨.str z, H2, J2, ⟨t, rfl⟩, q2⟩
end G0

namespace G0
open PySem PySem.Spec PyProof.Rows L2
abbrev s_Spots_size : Stmt := inClass s_Spots 1
abbrev s_Spots_eq : Stmt := inClass s_Spots 2
abbrev s_Spots_repr : Stmt := inClass s_Spots 3
abbrev s_Spots_without : Stmt := inClass s_Spots 6
abbrev s_Spots_with_point : Stmt := inClass s_Spots 7
abbrev s_is_count : Stmt := top 3
abbrev s_check_position : Stmt := top 22
abbrev s_check_spots : Stmt := top 28
abbrev s_same_points : Stmt := top 29
/-- told points as Spots keep them -/
structure Good (ts : List (List Int)) : Prop where
  one : 1 ≤ ts.length
  most : ts.length ≤ 24
  nd : ts.Nodup
  len : ∀ t ∈ ts, t.length = 3
  nz : ∀ t ∈ ts, ∃ n ∈ t, n ≠ 0
  sm : ∀ t ∈ ts, ∀ n ∈ t, n.natAbs < 2 ^ 30
  told : ∀ t ∈ ts, plainI t = t
theorem Good.map {ts : List (List Int)} (g : Good ts) : ts.map plainI = ts := by
  conv => rhs; rw [← List.map_id ts]
  exact List.map_congr_left fun t ht => g.told t ht
theorem fine_tups : ∀ us : List (List Int), (∀ t ∈ us, Sm t ∧ t.length ≤ 8) → FineAll (us.map dTup) 1 (15470 * us.length)
  | [], _ => .nil
  | t :: us, h => by
    have ih := fine_tups us fun u hu => h u (List.mem_cons_of_mem _ hu)
    obtain ⟨h1, h2⟩ := h t List.mem_cons_self
    have f := fine_ints h1
    have e := FineAll.cons (d := dTup t) (dep := 1) (s1 := 1932 * t.length + 3) (by simp only [PyData.showable]; exact f.sh) (by simp only [PyData.hasDict]; exact f.nd) (by have := f.dep; simp only [PyData.depth]; omega) (by have := f.sz; simp only [szD]; omega) ih
    refine ⟨e.sh, e.nd, e.dep, Nat.le_trans e.sz ?_⟩
    rw [List.length_cons]
    omega
theorem Good.all {ts : List (List Int)} (g : Good ts) : FineAll (ts.map dTup) 1 (15470 * ts.length) :=
  fine_tups ts fun t ht => ⟨fun n hn => Nat.lt_trans (g.sm t ht n hn) (by decide +kernel), by rw [g.len t ht]; decide⟩
theorem Good.fine {ts : List (List Int)} (g : Good ts) : Fine (.list (ts.map dTup)) := .lst g.all (by decide) (by have := g.most; omega)
theorem dp_int {K : PySem.W.Frag} {H : Hp} : ∀ {xs : List V} {ns : List Int}, DpAll K H xs (ns.map PyData.int) → xs = ns.map V.int
  | _, [], h => by
    cases h
    rfl
  | _, n :: ns, h => by
    cases h with
    | cons h1 h2 =>
      cases h1
      rw [dp_int h2]
      rfl
theorem dp_at {K : PySem.W.Frag} {H : Hp} : ∀ {xs : List V} {ds : List PyData} {i : Nat} {v : V} {d : PyData}, DpAll K H xs ds → xs[i]? = some v → ds[i]? = some d → Dp K H v d
  | _, _, 0, _, _, .cons h _, h1, h2 => by
    cases h1
    cases h2
    exact h
  | _, _, i + 1, _, _, .cons _ h, h1, h2 => dp_at (i := i) h h1 h2
theorem dp_pt {K : PySem.W.Frag} {H : Hp} {v : V} {t : List Int} (h : Dp K H v (dTup t)) (l : t.length = 3) (nz : ∃ n ∈ t, n ≠ 0) (sm : ∀ n ∈ t, n.natAbs < 2 ^ 30) : Pt K H v t := by
  cases h with
  | tup hs ha =>
    obtain rfl := dp_int ha
    obtain ⟨a, b, c, rfl⟩ := three_of l
    exact ⟨⟨_, a, b, c, rfl, rfl, .inr hs⟩, nz, sm⟩
theorem DpAll.append {K : PySem.W.Frag} {H : Hp} : ∀ {xs ys : List V} {ds es : List PyData}, DpAll K H xs ds → DpAll K H ys es → DpAll K H (xs ++ ys) (ds ++ es)
  | _, _, _, _, .nil, h => h
  | _, _, _, _, .cons h1 h2, h => .cons h1 (DpAll.append h2 h)
theorem DpAll.take {K : PySem.W.Frag} {H : Hp} : ∀ {xs : List V} {ds : List PyData} (i : Nat), DpAll K H xs ds → DpAll K H (xs.take i) (ds.take i)
  | _, _, 0, _ => by
    rw [List.take_zero, List.take_zero]
    exact .nil
  | _, _, i + 1, .nil => by
    rw [List.take_nil, List.take_nil]
    exact .nil
  | _, _, i + 1, .cons h1 h2 => .cons h1 (DpAll.take i h2)
theorem DpAll.drop {K : PySem.W.Frag} {H : Hp} : ∀ {xs : List V} {ds : List PyData} (i : Nat), DpAll K H xs ds → DpAll K H (xs.drop i) (ds.drop i)
  | _, _, 0, h => h
  | _, _, i + 1, .nil => by
    rw [List.drop_nil, List.drop_nil]
    exact .nil
  | _, _, i + 1, .cons h1 h2 => DpAll.drop i h2
/-- of the class itself -/
structure InsOf (K : PySem.W.Frag) (C : Addr) : Prop where
  cl : Cls K C
  ha : PySem.W.findIn K (.ref C) "__class__" = some (some (.builtin "object.__class__"))
  hn : PySem.W.specialIn K (.builtin "object.__class__") "__get__" = some (some (.builtin "getset_descriptor.__get__"))
  htk : PySem.W.takesIn K (.builtin "object.__class__") = some true
  hm : PySem.W.mroIn K C (.type "object") = some true
  notL : PySem.W.kitOne K (.type "list") (.ref C) = some false
  notT : PySem.W.kitOne K (.type "tuple") (.ref C) = some false
theorem kit_self {K : PySem.W.Frag} {C : Addr} : PySem.W.kitOne K (.ref C) (.ref C) = some true := by
  unfold PySem.W.kitOne
  rw [if_pos (by simp)]
section
variable {P : Program} {w : World} {K : PySem.W.Frag} {mg : Str → Option Value} {base : Heap}
/-! size -/
def sp_size (K : PySem.W.Frag) (C : Addr) : Sp := fun vs H Q _ => ∃ (x : Addr) (ts : List (List Int)), vs = [.ref x] ∧ SpotsAt K C H x ts ∧ Q (.int (ts.length : Nat)) H
theorem sc_size : FnScope ["self"] ["self"] (defScope s_Spots_size) := ⟨rfl, rfl, rfl, by decide +kernel, rfl, by decide +kernel, by decide +kernel⟩
theorem ok_size {f C : Addr} {fd : FuncData} (F : Fun K "size" "Spots.size" s_Spots_size f fd) (T : SpTxt K mg C) (B : Blt mg) : FnOk P w K mg base CX0 1 f fd ["self"] (sp_size K C) := by
  refine F.ok sc_size (fun vs H Q E h => ?_) (fun cdv A outer s H vs Q E hr h => ?_)
  · obtain ⟨x, ts, rfl, _⟩ := h
    rfl
  · obtain ⟨x, ts, rfl, ⟨dx, l, us, h1, h2, h3⟩, q⟩ := h
    refine ⟨_, pss_one (ps_ret (pe_callB call_len_seq (by rfl) B.len PySem.boot_len (pa_cons (pe_fld (pv 0) rfl) pa_nil))), ?_⟩
    refine ⟨_, rfl, x, C, dx, _, _, rfl, h1, T.cl, T.nP, rfl, l, us, rfl, .inl (SqL.mk h2), ?_⟩
    rw [DpAll.len h3, List.length_map]
    exact q
/-! == -/
theorem eqv_tups : ∀ ts us : List (List Int), PyData.eqvAll (ts.map dTup) (us.map dTup) = decide (ts = us)
  | [], [] => by simp [PyData.eqvAll]
  | [], _ :: _ => by simp [PyData.eqvAll]
  | _ :: _, [] => by simp [PyData.eqvAll]
  | t :: ts, u :: us => by
    have ih := eqv_tups ts us
    have h := eqv_tup t u
    rw [List.map_cons, List.map_cons, PyData.eqvAll, ih, h]
    rw [Bool.eq_iff_iff]
    simp
theorem eqv_ltups (ts us : List (List Int)) : PyData.eqv (.list (ts.map dTup)) (.list (us.map dTup)) = decide (ts = us) := by
  simp only [PyData.eqv, eqv_tups]
def sp_eq (K : PySem.W.Frag) (C : Addr) : Sp := fun vs H Q _ => ∃ (x : Addr) (y : V) (ts : List (List Int)), vs = [.ref x, y] ∧ SpotsAt K C H x ts ∧
  ((∃ b us, y = .ref b ∧ SpotsAt K C H b us ∧ Q (.bl (decide (ts = us))) H) ∨ (∃ b xs, y = .ref b ∧ Sq K H b xs ∧ Q (.bl false) H))
theorem sc_eq : FnScope ["self", "other"] ["self", "other"] (defScope s_Spots_eq) := ⟨rfl, rfl, rfl, by decide +kernel, rfl, by decide +kernel, by decide +kernel⟩
theorem ok_eq {f C : Addr} {fd : FuncData} (F : Fun K "__eq__" "Spots.__eq__" s_Spots_eq f fd) (T : SpTxt K mg C) (B : Blt mg) (I : InsOf K C) : FnOk P w K mg base CX0 1 f fd ["self", "other"] (sp_eq K C) := by
  refine F.ok sc_eq (fun vs H Q E h => ?_) (fun cdv A outer s H vs Q E hr h => ?_)
  · obtain ⟨x, y, ts, rfl, _⟩ := h
    rfl
  · obtain ⟨x, y, ts, rfl, ⟨dx, l, us, h1, h2, h3⟩, q⟩ := h
    have hu := hr.units
    refine ⟨_, pss_one (ps_ret (pe_and (pe_callB call_isi (by rfl) B.isinstance boot_isi (pa_cons (pv 1) (pa_cons (pe_glob (v := V.ref C) rfl T.mgC rfl) pa_nil))) (pe_one (pe_cmpR (op_eqD hu) (pe_fld (pv 0) rfl) (pe_fld (pv 1) rfl) (nomark _))))), ?_⟩
    rcases q with ⟨b, ts2, rfl, ⟨dy, m, vs2, g1, g2, g3⟩, q⟩ | ⟨b, xs, rfl, hs, q⟩
    · refine ⟨_, rfl, _, _, _, _, true, rfl, .own C, .base (.ins g1 I.cl I.ha I.hn I.htk I.hm), kit_self, true, rfl, iteT ?_⟩
      refine ⟨_, rfl, x, C, dx, _, _, rfl, h1, T.cl, T.nP, rfl, _, rfl, b, C, dy, _, _, rfl, g1, T.cl, T.nP, rfl, _, _, .lst (SqL.mk h2) h3, .lst (SqL.mk g2) g3, shaped_tups _, shaped_tups _, ?_⟩
      rw [eqv_ltups]
      exact q
    · rcases hs with hs | hs
      · exact ⟨_, rfl, _, _, _, _, false, rfl, .own C, ty_l hs, I.notL, false, rfl, iteF q⟩
      · exact ⟨_, rfl, _, _, _, _, false, rfl, .own C, ty_t hs, I.notT, false, rfl, iteF q⟩
/-! repr -/
def shownS (ts : List (List Int)) : Str := (("Spots(" : String) : Str) ++ (PyData.list (ts.map dTup)).shown ++ ((")" : String) : Str)
theorem pe_fmtD {X : Cx} {k : Nat} {e : Expr} {te : TE} {pos : Pos} (gd : X.A.guards = some []) (hr : Room k X.A) (he : PE X e te) : PE X (.FormattedValue e (-1) none pos) (fun σ H Q => te σ H fun x H1 => ∃ (a : Addr) (d : PyData), x = .ref a ∧ Dp X.K H1 (.ref a) d ∧ Fine d ∧ Q (.str d.shown) H1) := by
  constructor
  intro pins s σ H Q J want
  refine wpAny_FormattedValue_plain (thn (he.run pins s σ H _ J want) ?_)
  rintro v s1 ⟨x, H1, J1, r1, a, d, rfl, dp, fd, q⟩
  cases r1
  obtain ⟨as, rd⟩ := Dp.reads J1 d _ _ dp rfl
  have un := hr.un
  have dep := fd.dep
  refine formatField_of_reads rd fd.sh (fun z => ?_) gd (by omega) (fun _ _ q => q) (fun h2 u tk kept => ?_) fd.fit
  · rw [fd.nd] at z
    cases z
  · exact ⟨.str d.shown, H1, J1.kept kept, ⟨_, rfl⟩, q⟩
def sp_repr (K : PySem.W.Frag) (C : Addr) : Sp := fun vs H Q _ => ∃ (x : Addr) (ts : List (List Int)), vs = [.ref x] ∧ SpotsAt K C H x ts ∧ Good ts ∧ Q (.str (shownS ts)) H
theorem sc_repr : FnScope ["self"] ["self"] (defScope s_Spots_repr) := ⟨rfl, rfl, rfl, by decide +kernel, rfl, by decide +kernel, by decide +kernel⟩
theorem str_empty (z : Str) : Str.empty ++ z = z := by
  cases z with
  | mk c =>
    show (⟨#[] ++ c⟩ : Str) = ⟨c⟩
    rw [Array.empty_append]
theorem ok_repr {f C : Addr} {fd : FuncData} (F : Fun K "__repr__" "Spots.__repr__" s_Spots_repr f fd) (T : SpTxt K mg C) : FnG P w K mg base 1 f fd ["self"] (sp_repr K C) := by
  refine F.okG sc_repr (fun vs H Q E h => ?_) (fun cdv A outer s H vs Q E gd hr h => ?_)
  · obtain ⟨x, ts, rfl, _⟩ := h
    rfl
  · obtain ⟨x, ts, rfl, ⟨dx, l, us, h1, h2, h3⟩, g, q⟩ := h
    refine ⟨_, pss_one (ps_ret (pe_joined (.cons pe_str (.cons (pe_fmtD gd hr (pe_fld (pv 0) rfl)) (.cons pe_str .nil))))), ?_⟩
    have z := shown_le _ g.fine.sh g.fine.nd
    have z2 := g.fine.sz
    have l1 : (((("Spots(" : String) : Str))).length = 6 := rfl
    have l2 : ((((")" : String) : Str))).length = 1 := rfl
    refine ⟨_, rfl, ?_, _, rfl, x, C, dx, _, _, rfl, h1, T.cl, T.nP, rfl, l, _, rfl, .lst (SqL.mk h2) h3, g.fine, _, rfl, ?_, _, rfl, ?_, ?_⟩
    · rw [str_empty, l1]
      decide
    · rw [str_empty, strLen_append, l1, sizeLine_eq]
      omega
    · rw [str_empty, strLen_append, strLen_append, l1, l2, sizeLine_eq]
      omega
    · show Q (.str (((Str.empty ++ (("Spots(" : String) : Str)) ++ (PyData.list (ts.map dTup)).shown) ++ ((")" : String) : Str))) H
      rw [str_empty]
      exact q
end
end G0

namespace G0
open PySem PySem.Spec PyProof.Rows L2
theorem Good.erase {ts : List (List Int)} (g : Good ts) (l2 : 2 ≤ ts.length) {i : Nat} (hi : i < ts.length) : Good (ts.take i ++ ts.drop (i + 1)) := by
  have sub : (ts.take i ++ ts.drop (i + 1)).Sublist ts := by
    conv => rhs; rw [← List.take_append_drop i ts]
    refine List.Sublist.append (List.Sublist.refl _) ?_
    rw [← List.drop_drop]
    exact List.drop_sublist 1 _
  have mem : ∀ t ∈ ts.take i ++ ts.drop (i + 1), t ∈ ts := fun t ht => sub.subset ht
  have len : (ts.take i ++ ts.drop (i + 1)).length = ts.length - 1 := by
    rw [List.length_append, List.length_take, List.length_drop]
    omega
  have := g.most
  exact ⟨by omega, by omega, sub.nodup g.nd, fun t ht => g.len t (mem t ht), fun t ht => g.nz t (mem t ht), fun t ht => g.sm t (mem t ht), fun t ht => g.told t (mem t ht)⟩
theorem Good.snoc {ts : List (List Int)} {t : List Int} (g : Good ts) (l : ts.length < 24) (len : t.length = 3) (nz : ∃ n ∈ t, n ≠ 0) (sm : ∀ n ∈ t, n.natAbs < 2 ^ 30) (told : plainI t = t) (no : t ∉ ts) : Good (ts ++ [t]) := by
  have cases_ : ∀ u ∈ ts ++ [t], u ∈ ts ∨ u = t := fun u hu => (List.mem_append.mp hu).imp id List.mem_singleton.mp
  have one := g.one
  refine ⟨by rw [List.length_append]; omega, by rw [List.length_append]; exact (by show ts.length + 1 ≤ 24; omega), ?_, ?_, ?_, ?_, ?_⟩
  · refine List.nodup_append.mpr ⟨g.nd, by simp, fun a ha b hb => ?_⟩
    rw [List.mem_singleton.mp hb]
    intro e
    exact no (e ▸ ha)
  · intro u hu
    rcases cases_ u hu with h | rfl
    · exact g.len u h
    · exact len
  · intro u hu
    rcases cases_ u hu with h | rfl
    · exact g.nz u h
    · exact nz
  · intro u hu
    rcases cases_ u hu with h | rfl
    · exact g.sm u h
    · exact sm
  · intro u hu
    rcases cases_ u hu with h | rfl
    · exact g.told u h
    · exact told
theorem cut_lo (xs : List V) (i : Nat) : cutV xs none (some (i : Int)) = xs.take i := by
  unfold cutV
  rw [HT.sIx_none, HT.sIx_nat, List.drop_zero, Nat.sub_zero]
  by_cases h : i ≤ xs.length
  · rw [Nat.min_eq_left h]
  · rw [Nat.min_eq_right (by omega), List.take_length, List.take_of_length_le (by omega)]
theorem cut_hi (xs : List V) (i : Nat) : cutV xs (some (i : Int)) none = xs.drop i := by
  unfold cutV
  rw [HT.sIx_none, HT.sIx_nat]
  by_cases h : i ≤ xs.length
  · rw [Nat.min_eq_left h, List.take_of_length_le (by rw [List.length_drop]; omega)]
  · rw [Nat.min_eq_right (by omega), Nat.sub_self, List.take_zero, List.drop_of_length_le (by omega)]
section
variable {P : Program} {w : World} {K : PySem.W.Frag} {mg : Str → Option Value} {base : Heap}
/-! is_count, check_position -/
def sp_is_count : Sp := fun vs H Q _ => ∃ n : Int, vs = [.int n] ∧ Q (.bl (decide (0 ≤ n))) H
theorem sc_is_count : FnScope ["value"] ["value"] (defScope s_is_count) := ⟨rfl, rfl, rfl, by decide +kernel, rfl, by decide +kernel, by decide +kernel⟩
theorem ok_is_count {f f1 : Addr} {fd fd1 : FuncData} (F : Fun K "is_count" "is_count" s_is_count f fd) (B : Blt mg) (D1 : Df K mg "is_integer" s_is_integer ["value"] f1 fd1) : FnOk P w K mg base CX0 2 f fd ["value"] sp_is_count := by
  have G1 : FnOk P w K mg base CX0 1 f1 fd1 ["value"] sp_is_integer := ok_is_integer D1.F B
  refine F.ok sc_is_count (fun vs H Q E h => ?_) (fun cdv A outer s H vs Q E hr h => ?_)
  · obtain ⟨n, rfl, _⟩ := h
    rfl
  · obtain ⟨n, rfl, q⟩ := h
    refine ⟨_, pss_one (ps_ret (pe_and (pdf D1 G1 hr (pa_cons (pv 0) pa_nil)) (pe_one (pe_cmpR op_ge (pv 0) pe_int (nomark _))))), ?_⟩
    refine ⟨_, rfl, n, rfl, true, rfl, iteT ?_⟩
    exact ⟨_, rfl, _, _, rfl, rfl, q⟩
def sp_check_position : Sp := fun vs H Q _ => ∃ n m : Int, vs = [.int n, .int m] ∧ 0 ≤ n ∧ n < m ∧ Q .non H
theorem sc_check_position : FnScope ["position", "size"] ["position", "size"] (defScope s_check_position) := ⟨rfl, rfl, rfl, by decide +kernel, rfl, by decide +kernel, by decide +kernel⟩
theorem ok_check_position {f f1 : Addr} {fd fd1 : FuncData} (F : Fun K "check_position" "check_position" s_check_position f fd) (D1 : Df K mg "is_count" s_is_count ["value"] f1 fd1) (G1 : FnOk P w K mg base CX0 2 f1 fd1 ["value"] sp_is_count) : FnOk P w K mg base CX0 3 f fd ["position", "size"] sp_check_position := by
  refine F.ok sc_check_position (fun vs H Q E h => ?_) (fun cdv A outer s H vs Q E hr h => ?_)
  · obtain ⟨n, m, rfl, _⟩ := h
    rfl
  · obtain ⟨n, m, rfl, h0, h1, q⟩ := h
    refine ⟨_, pss_one (ps_if (PW.pt (pw_or (pt_not (pt_val (pdf D1 G1 hr (pa_cons (pv 0) pa_nil)))) (pw_or1 (pt_cmpR op_ge (pv 0) (pv 1) (nomark _))))) (pss_one ps_never) pss_nil), ?_⟩
    refine ⟨_, rfl, n, rfl, ?_⟩
    rw [decide_eq_true h0]
    refine ⟨true, rfl, iteF ?_⟩
    refine ⟨_, rfl, _, rfl, _, _, rfl, rfl, _, rfl, ?_⟩
    rw [decide_eq_false (show ¬ m ≤ n by omega)]
    exact iteF q
/-! without, with_point -/
def sp_without (K : PySem.W.Frag) (C : Addr) : Sp := fun vs H Q _ => ∃ (x : Addr) (ts : List (List Int)) (i : Nat), vs = [.ref x, .int (i : Nat)] ∧ SpotsAt K C H x ts ∧ Good ts ∧ i < ts.length ∧ 2 ≤ ts.length ∧
  ∀ H' y, Same H H' → H y = none → SpotsAt K C H' y (ts.take i ++ ts.drop (i + 1)) → Q (.ref y) H'
theorem sc_without : FnScope ["self", "position"] ["self", "position"] (defScope s_Spots_without) := ⟨rfl, rfl, rfl, by decide +kernel, rfl, by decide +kernel, by decide +kernel⟩
theorem pts_of {H : Hp} {us : List V} {ts : List (List Int)} (h : DpAll K H us (ts.map dTup)) (g : Good ts) : ∀ (i : Nat) (v : V) (t : List Int), us[i]? = some v → ts[i]? = some t → Pt K H v t := fun i v t h1 h2 => by
  have m := List.mem_of_getElem? h2
  exact dp_pt (dp_at (i := i) h h1 (by rw [List.getElem?_map, h2]; rfl)) (g.len t m) (g.nz t m) (g.sm t m)
/-- Spots(a new list of told points) -/
theorem made_use {C : Addr} {H1 : Hp} {L : Addr} {us : List V} {ts : List (List Int)} {Q : VK} {E : XK} (hL : H1 L = some (.lst us)) (hd : DpAll K H1 us (ts.map dTup)) (g : Good ts) (k : ∀ H' y, Same H1 H' → H1 y = none → SpotsAt K C H' y ts → Q (.ref y) H') :
    ∀ x dx, H1 x = none → H1 dx = none → dx ≠ x → sp_init K C ([V.ref x, V.ref L] ++ []) (upd (upd H1 dx (.own x)) x (.ins C dx [])) (fun v H2 => v = .non ∧ Q (.ref x) H2) E := by
  intro x dx nx ndx ne
  have s7 : Same H1 (upd (upd H1 dx (.own x)) x (.ins C dx [])) := fun b o e => by
    rw [upd_ne (ne_of_none e nx), upd_ne (ne_of_none e ndx)]
    exact e
  have gm := g.map
  refine ⟨H1, x, dx, L, us, ts, rfl, s7, nx, upd_same, .inl (SqL.mk hL), by rw [DpAll.len hd, List.length_map], pts_of hd g, g.one, g.most, by rw [gm]; exact g.nd, fun H' s' sp' => ⟨rfl, k H' x s' nx ?_⟩⟩
  rw [gm] at sp'
  exact sp'
theorem ok_without {f C f1 fS fI pS : Addr} {fd fd1 dS dI : FuncData} (F : Fun K "without" "Spots.without" s_Spots_without f fd) (T : SpTxt K mg C) (D1 : Df K mg "check_position" s_check_position ["position", "size"] f1 fd1) (G1 : FnOk P w K mg base CX0 3 f1 fd1 ["position", "size"] sp_check_position)
    (hp : PropOf K C "size" pS fS) (GS : FnOk P w K mg base CX0 1 fS dS ["self"] (sp_size K C)) (bS : Binds K dS ["self"] []) (M : Mk K C fI) (GI : FnOk P w K mg base CX0 5 fI dI ["self", "points"] (sp_init K C)) (bI : Binds K dI ["self", "points"] []) :
    FnOk P w K mg base CX0 7 f fd ["self", "position"] (sp_without K C) := by
  refine F.ok sc_without (fun vs H Q E h => ?_) (fun cdv A outer s H vs Q E hr h => ?_)
  · obtain ⟨x, ts, i, rfl, _⟩ := h
    rfl
  · obtain ⟨x, ts, i, rfl, sp, g, hi, l2, q⟩ := h
    obtain ⟨dx, l, us, h1, h2, h3⟩ := id sp
    have lu : us.length = ts.length := by rw [DpAll.len h3, List.length_map]
    refine ⟨_, pss_cons (ps_expr (pdf D1 G1 (hr.mono (by decide)) (pa_cons (pv 1) (pa_cons (pe_prop (E := E0) (pv 0) T.cl hp GS (hr.mono (by decide)) bS .nil pass0 rfl) pa_nil))))
      (pss_cons (ps_if (pt_cmpR op_eq (pe_prop (E := E0) (pv 0) T.cl hp GS (hr.mono (by decide)) bS .nil pass0 rfl) pe_int (nomark _)) (pss_one ps_never) pss_nil)
      (pss_one (ps_ret (pe_make (E := E0) M GI hr (by rfl) T.mgC bI .nil pass0 (pa_cons (pe_op op_cat (pe_slice sl_list (pe_fld (pv 0) rfl) po_none (po_some (pv 1))) (pe_slice sl_list (pe_fld (pv 0) rfl) (po_some (pe_op op_add (pv 1) pe_int)) po_none)) pa_nil))))), ?_⟩
    refine ⟨_, rfl, _, rfl, x, dx, _, rfl, h1, x, ts, rfl, sp, ?_⟩
    refine ⟨_, _, rfl, by omega, by omega, ?_⟩
    refine ⟨_, rfl, x, dx, _, rfl, h1, x, ts, rfl, sp, rfl, _, rfl, ?_⟩
    rw [show decide (V.int ((ts.length : Nat) : Int) = V.int 1) = false from decide_eq_false (fun e => by have := V.int.inj e; omega)]
    refine iteF ?_
    refine ⟨_, rfl, x, C, dx, _, _, rfl, h1, T.cl, T.nP, rfl, _, rfl, _, rfl, l, us, rfl, SqL.mk h2, fun p hp1 => ?_⟩
    rw [cut_lo]
    have sa := same_new (o := .lst (us.take i)) hp1
    have i1 : ((i : Nat) : Int) + 1 = ((i + 1 : Nat) : Int) := by omega
    refine ⟨_, rfl, x, C, dx, _, _, rfl, sa _ _ h1, T.cl, T.nP, rfl, _, rfl, _, _, rfl, rfl, _, rfl, l, us, rfl, SqL.mk (sa _ _ h2), fun p2 hp2 => ?_⟩
    rw [i1, cut_hi]
    have sb := same_new (o := .lst (us.drop (i + 1))) hp2
    have sz : (us.take i).length + (us.drop (i + 1)).length ≤ sizeLine := by
      rw [List.length_take, List.length_drop, lu, sizeLine_eq]
      have := g.most
      omega
    refine ⟨_, _, _, _, rfl, rfl, sb _ _ upd_same, upd_same, sz, fun p3 hp3 => ?_⟩
    have sc := same_new (o := .lst (us.take i ++ us.drop (i + 1))) hp3
    have s3 := (sa.trans sb).trans sc
    have hd : DpAll K (upd (upd (upd H p (.lst (us.take i))) p2 (.lst (us.drop (i + 1)))) p3 (.lst (us.take i ++ us.drop (i + 1)))) (us.take i ++ us.drop (i + 1)) ((ts.take i ++ ts.drop (i + 1)).map dTup) := by
      rw [List.map_append, List.map_take, List.map_drop]
      exact DpAll.same s3 (DpAll.append (DpAll.take i h3) (DpAll.drop (i + 1) h3))
    exact made_use upd_same hd (g.erase l2 hi) fun H' y s' ny sy => q H' y (s3.trans s') (s3.free ny) sy
def sp_with (K : PySem.W.Frag) (C : Addr) : Sp := fun vs H Q _ => ∃ (x : Addr) (ts : List (List Int)) (v : V) (t : List Int), vs = [.ref x, v] ∧ SpotsAt K C H x ts ∧ Good ts ∧ Pt K H v t ∧ t.length = 3 ∧ plainI t ∉ ts ∧ ts.length < 24 ∧
  ∀ H' y, Same H H' → H y = none → SpotsAt K C H' y (ts ++ [plainI t]) → Q (.ref y) H'
theorem sc_with : FnScope ["self", "point", "told"] ["self", "point"] (defScope s_Spots_with_point) := ⟨rfl, rfl, rfl, by decide +kernel, rfl, by decide +kernel, by decide +kernel⟩
theorem ok_with {f C f3 fS fI pS : Addr} {fd fd3 dS dI : FuncData} (F : Fun K "with_point" "Spots.with_point" s_Spots_with_point f fd) (T : SpTxt K mg C) (D3 : Df K mg "told_point" s_told_point ["point"] f3 fd3) (G3 : FnOk P w K mg base CX0 4 f3 fd3 ["point"] (sp_told_point K))
    (hp : PropOf K C "size" pS fS) (GS : FnOk P w K mg base CX0 1 fS dS ["self"] (sp_size K C)) (bS : Binds K dS ["self"] []) (M : Mk K C fI) (GI : FnOk P w K mg base CX0 5 fI dI ["self", "points"] (sp_init K C)) (bI : Binds K dI ["self", "points"] []) :
    FnOk P w K mg base CX0 7 f fd ["self", "point"] (sp_with K C) := by
  refine F.ok sc_with (fun vs H Q E h => ?_) (fun cdv A outer s H vs Q E hr h => ?_)
  · obtain ⟨x, ts, v, t, rfl, _⟩ := h
    rfl
  · obtain ⟨x, ts, v, t, rfl, sp, g, ⟨⟨p, a, b, c, rfl, rfl, sq⟩, nz, sm⟩, tl, no, l24, q⟩ := h
    have hu65 : (A.deeper (envOfC "Spots.with_point" (defScope s_Spots_with_point) s.heap.objs.size f cdv)).units + 65 < cLine := by
      have := hr.un
      omega
    obtain ⟨t24, m24⟩ := T.most
    refine ⟨_, pss_cons (ps_set (i := 2) sc_with.nd rfl (Or.inl rfl) (pdf D3 G3 (hr.mono (by decide)) (pa_cons (pv 1) pa_nil)))
      (pss_cons (ps_if (pt_cmpR (op_inD hu65) (pv 2) (pe_fld (pv 0) rfl) (by rfl)) (pss_one ps_never) pss_nil)
      (pss_cons (ps_if (pt_cmpR op_eq (pe_prop (E := E0) (pv 0) T.cl hp GS (hr.mono (by decide)) bS .nil pass0 rfl) (pe_glob (v := V.int 24) rfl m24 ⟨_, rfl⟩) (nomark _)) (pss_one ps_never) pss_nil)
      (pss_one (ps_ret (pe_make (E := E0) M GI hr (by rfl) T.mgC bI .nil pass0 (pa_cons (pe_lst (StX.pa_star (pe_fld (pv 0) rfl) (pa_cons (pv 2) pa_nil))) pa_nil)))))), ?_⟩
    refine ⟨_, rfl, p, a, b, c, rfl, sq, nz, sm, fun H1 t1 s1 n1 g1 => ?_⟩
    have sp1 := sp.same s1
    obtain ⟨dx, l, us, i1, i2, i3⟩ := id sp1
    refine ⟨_, rfl, _, rfl, x, C, dx, _, _, rfl, i1, T.cl, T.nP, rfl, dTup (plainI [a, b, c]), ts.map dTup, dp_tup (SqT.mk g1), .lst (SqL.mk i2) i3, shaped_tup _, shaped_tups _, ?_⟩
    rw [any_eqv, decide_eq_false no]
    refine ⟨_, rfl, iteF ?_⟩
    refine ⟨_, rfl, x, dx, _, rfl, i1, x, ts, rfl, sp1, rfl, _, rfl, ?_⟩
    rw [show decide (V.int ((ts.length : Nat) : Int) = V.int 24) = false from decide_eq_false (fun e => by have := V.int.inj e; omega)]
    refine iteF ?_
    have lu : us.length = ts.length := by rw [DpAll.len i3, List.length_map]
    refine ⟨_, rfl, x, C, dx, _, _, rfl, i1, T.cl, T.nP, rfl, l, us, rfl, .inr (SqL.mk i2), _, rfl, ?_⟩
    refine ⟨?_, fun p3 hp3 => ?_⟩
    · show (us ++ [V.ref t1]).length ≤ sizeLine
      rw [List.length_append, lu, sizeLine_eq]
      show ts.length + 1 ≤ _
      omega
    have s3 := same_new (o := .lst (us ++ [V.ref t1])) hp3
    have hd : DpAll K (upd H1 p3 (.lst (us ++ [V.ref t1]))) (us ++ [V.ref t1]) ((ts ++ [plainI [a, b, c]]).map dTup) := by
      rw [List.map_append]
      exact DpAll.same s3 (DpAll.append i3 (.cons (dp_tup (SqT.mk g1)) .nil))
    have g2 := g.snoc l24 (plainI_len _) (plainI_nz nz) (plainI_le nz sm) (plainI_told nz) no
    exact made_use upd_same hd g2 fun H' y s' ny sy => q H' y ((s1.trans s3).trans s') ((s1.trans s3).free ny) sy
/-! check_spots -/
def sp_check_spots (K : PySem.W.Frag) (C : Addr) : Sp := fun vs H Q _ => ∃ (x : Addr) (ts : List (List Int)), vs = [.ref x] ∧ SpotsAt K C H x ts ∧ Q .non H
theorem sc_check_spots : FnScope ["spots"] ["spots"] (defScope s_check_spots) := ⟨rfl, rfl, rfl, by decide +kernel, rfl, by decide +kernel, by decide +kernel⟩
theorem ok_check_spots {f C : Addr} {fd : FuncData} (F : Fun K "check_spots" "check_spots" s_check_spots f fd) (T : SpTxt K mg C) (B : Blt mg) (I : InsOf K C) : FnOk P w K mg base CX0 1 f fd ["spots"] (sp_check_spots K C) := by
  refine F.ok sc_check_spots (fun vs H Q E h => ?_) (fun cdv A outer s H vs Q E hr h => ?_)
  · obtain ⟨x, ts, rfl, _⟩ := h
    rfl
  · obtain ⟨x, ts, rfl, ⟨dx, l, us, h1, h2, h3⟩, q⟩ := h
    refine ⟨_, pss_one (ps_if (pt_not (pt_val (pe_callB call_isi (by rfl) B.isinstance boot_isi (pa_cons (pv 0) (pa_cons (pe_glob (v := V.ref C) rfl T.mgC rfl) pa_nil))))) (pss_one ps_never) pss_nil), ?_⟩
    exact ⟨_, rfl, _, _, _, _, true, rfl, .own C, .base (.ins h1 I.cl I.ha I.hn I.htk I.hm), kit_self, true, rfl, iteF q⟩
end
end G0

namespace G0
open PySem PySem.Spec PyProof.Rows L2
/-! ### sorted(list of tuples of ints) -/
def keyI (t : List Int) : List (Int ⊕ List Nat) := t.map Sum.inl
def lexLe (a b : List Int) : Prop := (listOrd itemOrd).blt (keyI b) (keyI a) = false
theorem keyI_inj : ∀ {a b : List Int}, keyI a = keyI b → a = b
  | [], [], _ => rfl
  | [], _ :: _, h => by cases h
  | _ :: _, [], h => by cases h
  | x :: a, y :: b, h => by
    have h1 : Sum.inl x = (Sum.inl y : Int ⊕ List Nat) := (List.cons.inj h).1
    cases h1
    rw [keyI_inj (List.cons.inj h).2]
theorem sorted_same {us vs : List (List Int)} (hu : us.Pairwise lexLe) (hv : vs.Pairwise lexLe) (p : us.Perm vs) : us = vs :=
  List.Perm.eq_of_pairwise (fun a b _ _ h1 h2 => keyI_inj ((listOrd itemOrd).total _ _ h2 h1)) hu hv p
theorem items_key : ∀ {xs : List Value} {ns : List Int} (i : Nat), IntsAre xs ns → tupItems (fun _ => false) i xs = some (keyI ns)
  | _, _, _, .nil => rfl
  | _, _, i, .cons n t h => by
    show (if false = true then none else (tupItems (fun _ => false) (i + 1) _).map (Sum.inl n :: ·)) = _
    rw [if_neg (by simp), items_key (i + 1) h]
    rfl
/-- what a value of the heap tells as a tuple of ints -/
structure IsTI (h : Heap) (v : Value) (ns : List Int) : Prop where
  ex : ∃ a o xs n, v = .ref a ∧ h.get? a = some o ∧ o.cls = .type "tuple" ∧ o.data = .seq xs n ∧ IntsAre xs.toList ns
theorem IsTI.key {h : Heap} {v : Value} {ns : List Int} (t : IsTI h v ns) : PyProof.Rows.G.tupKeyC h (fun _ => false) v = some (keyI ns) := by
  obtain ⟨a, o, xs, n, rfl, ho, hc, hd, hi⟩ := t.ex
  unfold PyProof.Rows.G.tupKeyC
  have c1 : PyProof.Rows.G.isTupObj h (.ref a) = true := by
    simp [PyProof.Rows.G.isTupObj, ho, hc]
  rw [if_pos c1]
  simp only [tupKey, ho, hd]
  exact items_key 0 hi
section
variable {X : Cx} {pins : List (Addr × Obj)} {σ : L2.St} {H : Hp} {s : Shared}
theorem dp_raw (J : Inv X pins σ H s) : ∀ {xs : List V} {ts : List (List Int)} {its : List Value}, DpAll X.K H xs (ts.map dTup) → Vals xs its → its.length = ts.length ∧ ∀ (i : Nat) (u : Value) (t : List Int), its[i]? = some u → ts[i]? = some t → IsTI s.heap u t
  | _, [], _, h, r => by
    cases h
    cases r
    exact ⟨rfl, fun i u t h => by simp at h⟩
  | _, t :: ts, _, h, r => by
    cases h with
    | cons h1 h2 =>
      cases r with
      | cons r1 r2 =>
        obtain ⟨l, all⟩ := dp_raw J h2 r2
        cases h1 with
        | tup hs ha =>
          obtain rfl := dp_int ha
          cases r1
          obtain ⟨its2, rv2, ⟨o, h1, h2, n, h3⟩, _⟩ := J.tuple hs
          refine ⟨by rw [List.length_cons, List.length_cons, l], fun i u t' hu ht => ?_⟩
          cases i with
          | zero =>
            cases hu
            cases ht
            exact ⟨⟨_, o, _, n, rfl, h1, h2, h3, by simpa using Vals.ints rv2⟩⟩
          | succ i => exact all i u t' hu ht
def rSortD (K : PySem.W.Frag) : List V → Hp → VK → Prop := fun vs H Q => ∃ (a : Addr) (xs : List V) (ts : List (List Int)), vs = [V.ref a] ∧ SqL K H a xs ∧ DpAll K H xs (ts.map dTup) ∧ (∀ t ∈ ts, t ≠ []) ∧
  ∀ (ys : List V) (us : List (List Int)) (p : Addr), us.Perm ts → us.Pairwise lexLe → H p = none → DpAll K H ys (us.map dTup) → Q (.ref p) (upd H p (.lst ys))
theorem cr_sortD : CallR X (.builtin "sorted") (rSortD X.K) := by
  intro pins s σ H vs us Q J r h
  obtain ⟨a, xs, ts, rfl, hs, hd, hne, q⟩ := h
  obtain ⟨its, rv, hl, hz⟩ := J.list hs
  rw [Vals.ref1 r]
  obtain ⟨lt, raw⟩ := dp_raw J hd rv
  have each : ∀ v ∈ its, ∃ t ∈ ts, IsTI s.heap v t := by
    intro v hv
    obtain ⟨i, hi, e⟩ := List.getElem_of_mem hv
    have ht : i < ts.length := by omega
    exact ⟨ts[i], List.getElem_mem ht, raw i v _ (by rw [List.getElem?_eq_getElem hi, e]) (List.getElem?_eq_getElem ht)⟩
  have firsts : ∀ l : List Value, (∀ v ∈ l, ∃ t ∈ ts, IsTI s.heap v t) → ∃ fs, TupsOf s.heap (fun _ => false) l fs := by
    intro l
    induction l with
    | nil => exact fun _ => ⟨[], .nil⟩
    | cons v l ih =>
      intro all
      obtain ⟨fs, hf⟩ := ih fun u hu => all u (List.mem_cons_of_mem _ hu)
      obtain ⟨t, ht, ti⟩ := all v List.mem_cons_self
      obtain ⟨b, o, ws, n, rfl, h1, h2, h3, h4⟩ := ti.ex
      have tne := hne t ht
      obtain ⟨ws⟩ := ws
      have h4' : IntsAre ws t := h4
      cases h4' with
      | nil => exact absurd rfl tne
      | cons m tk rest => exact ⟨_, .cons ⟨b, o, _, n, rfl, h1, h2, h3, rfl, fun _ => ⟨m, tk, rfl⟩, fun z => nomatch z⟩ hf⟩
  obtain ⟨fs, hfs⟩ := firsts its each
  refine PyProof.Rows.G.sorted_tups (shape := fun _ => false) hl.isList hfs (fun v hv => ?_) (by rw [← rv.length]; exact hz) fun st' perm srt _ => ?_
  · obtain ⟨t, _, ti⟩ := each v hv
    exact ⟨_, ti.key⟩
  · obtain ⟨e1, e2⟩ := bkV_refs rv (fun x mx => by
      obtain ⟨i, hi, e⟩ := List.getElem_of_mem mx
      have hi2 : i < ts.length := by
        have := rv.length
        omega
      have d := dp_at (i := i) hd (by rw [List.getElem?_eq_getElem hi, e]) (by rw [List.getElem?_map, List.getElem?_eq_getElem hi2]; rfl)
      cases d with
      | tup _ _ => exact ⟨_, rfl⟩)
    -- what each of the items is
    have fits : ∀ v t, IsTI s.heap v t → TS.intsOf s.heap v = t := by
      intro v t ti
      obtain ⟨b, o, ws, n, rfl, h1, h2, h3, h4⟩ := ti.ex
      exact TS.TupInts.ints ⟨b, ws, rfl, ⟨o, h1, h2, n, h3⟩, h4⟩
    have ets : its.map (TS.intsOf s.heap) = ts := by
      refine List.ext_getElem? fun i => ?_
      rw [List.getElem?_map]
      by_cases hi : i < its.length
      · have hi2 : i < ts.length := by omega
        rw [List.getElem?_eq_getElem hi, List.getElem?_eq_getElem hi2]
        exact congrArg some (fits _ _ (raw i _ _ (List.getElem?_eq_getElem hi) (List.getElem?_eq_getElem hi2)))
      · rw [List.getElem?_eq_none (by omega), List.getElem?_eq_none (by omega)]
        rfl
    have pl : (arrOf st').toList.Perm (its.zip its) := by
      have := perm
      rw [← pairsOf_toList]
      exact Array.perm_iff_toList_perm.mp this
    have same2 : ∀ p ∈ (arrOf st').toList, p.1 = p.2 ∧ p.2 ∈ its := by
      intro p mp
      obtain ⟨a1, a2⟩ := mem_zip_self (pl.mem_iff.mp mp)
      exact ⟨a1, a1 ▸ a2⟩
    have outl : ((arrOf st').map (·.2)).toList = (arrOf st').toList.map (·.2) := by simp
    have po : ((arrOf st').map (·.2)).toList.Perm its := by
      rw [outl]
      refine (pl.map (·.2)).trans ?_
      rw [show (its.zip its).map (·.2) = its from List.map_snd_zip (Nat.le_refl _)]
    have dpv : ∀ v ∈ its, Dp X.K H (bkV v) (dTup (TS.intsOf s.heap v)) := by
      intro v hv
      obtain ⟨i, hi, e⟩ := List.getElem_of_mem hv
      refine dp_at (i := i) hd ?_ ?_
      · rw [e1, List.getElem?_map, List.getElem?_eq_getElem hi, e]
        rfl
      · rw [← ets, List.map_map, List.getElem?_map, List.getElem?_eq_getElem hi, e]
        rfl
    have dpl : ∀ l : List Value, (∀ v ∈ l, v ∈ its) → DpAll X.K H (l.map bkV) ((l.map (TS.intsOf s.heap)).map dTup) := by
      intro l
      induction l with
      | nil => exact fun _ => .nil
      | cons v l ih => exact fun all => .cons (dpv v (all v List.mem_cons_self)) (ih fun u hu => all u (List.mem_cons_of_mem _ hu))
    have inI : ∀ v ∈ ((arrOf st').map (·.2)).toList, v ∈ its := fun v hv => po.mem_iff.mp hv
    obtain ⟨ep, he2⟩ := PyProof.Rows.sortedAll_at s.heap its ((arrOf st').map (·.2))
    have hlen : (((arrOf st').map (·.2)).toList.map bkV).length ≤ sizeLine := by
      rw [List.length_map, po.length_eq, ← rv.length]
      exact hz
    refine ⟨.ref _, upd H (s.heap.objs.size + 1) (.lst (((arrOf st').map (·.2)).toList.map bkV)), J.laid (t' := s.toks) (fun _ _ => PyProof.Rows.sortedAll_old) (Nat.le_succ _) ⟨hlen, ((arrOf st').map (·.2)).toList, ep, bkV_vals (fun u hu => e2 u (inI u hu)), he2⟩, rfl,
      q _ (((arrOf st').map (·.2)).toList.map (TS.intsOf s.heap)) _ ?_ ?_ (J.hok.fresh (Nat.le_succ _)) (dpl _ inI)⟩
    · rw [← ets]
      exact po.map _
    · rw [List.pairwise_map, List.pairwise_iff_getElem]
      intro i j hi hj hij
      have hi' : i < (arrOf st').size := by simpa using hi
      have hj' : j < (arrOf st').size := by simpa using hj
      have sz : (arrOf st').size = (pairsOf its).size := perm.size_eq
      have le := srt i j (by omega) (by omega)
      have kk : ∀ m (hm : m < (arrOf st').size), KK (PyProof.Rows.G.tupKindC s.heap (fun _ => false)) (arrOf st') m = keyI (TS.intsOf s.heap (arrOf st')[m].2) := by
        intro m hm
        obtain ⟨b1, b2⟩ := same2 (arrOf st')[m] (by simp)
        obtain ⟨t, _, ti⟩ := each _ b2
        unfold KK
        rw [Array.getElem?_eq_getElem hm]
        show (PyProof.Rows.G.tupKeyC s.heap (fun _ => false) (arrOf st')[m].1).getD [] = _
        rw [b1, ti.key, fits _ _ ti]
        rfl
      have le2 : (listOrd itemOrd).blt (KK (PyProof.Rows.G.tupKindC s.heap (fun _ => false)) (arrOf st') j) (KK (PyProof.Rows.G.tupKindC s.heap (fun _ => false)) (arrOf st') i) = false := le
      rw [kk i hi', kk j hj'] at le2
      show (listOrd itemOrd).blt (keyI _) (keyI _) = false
      simpa using le2
end
end G0

namespace G0
open PySem PySem.Spec PyProof.Rows L2
section
variable {X : Cx}
/-! list(range(n)) -/
theorem cr_range1 : CallR X (.type "range") (fun vs H Q => ∃ j, vs = [V.int j] ∧ ∀ p, H p = none → Q (.ref p) (upd H p (.rng 0 j))) := by
  intro pins s σ H vs us Q J r h
  obtain ⟨j, rfl, q⟩ := h
  obtain ⟨u, rfl, t, rfl⟩ := vals1 r
  refine call_range_1 ⟨.ref s.heap.objs.size, upd H s.heap.objs.size (.rng 0 j), J.laid (t' := s.toks + 1 + 1) (fun b o e => Heap.get?_push_of_some _ e) (Nat.le_refl _) ?_, rfl, q _ (J.hok.fresh (Nat.le_refl _))⟩
  exact ⟨s.toks, t, s.toks + 1, Heap.get?_push_size _ rfl⟩
theorem vals_from : ∀ (n : Nat) {acc : List Value} (k : Nat), acc.length = n → (∀ j v, acc[j]? = some v → ∃ t, v = Value.int ((k + j : Nat) : Int) t) → Vals ((List.range' k n).map fun i => V.int (i : Nat)) acc
  | 0, acc, k, h, _ => by
    rw [List.length_eq_zero_iff.mp h]
    exact .nil
  | n + 1, [], k, h, _ => by cases h
  | n + 1, v :: acc, k, h, all => by
    obtain ⟨t, e⟩ := all 0 v rfl
    rw [List.range'_succ]
    refine .cons ⟨t, e⟩ (vals_from n (k + 1) (Nat.succ.inj h) fun j u hj => ?_)
    obtain ⟨t2, e2⟩ := all (j + 1) u hj
    exact ⟨t2, by rw [e2]; congr 1; omega⟩
theorem cr_listRng (calm : X.calm = true) : CallR X (.type "list") (fun vs H Q => ∃ (r : Addr) (n : Nat), vs = [V.ref r] ∧ H r = some (.rng 0 (n : Nat)) ∧ n ≤ 1000 ∧ ∀ l, H l = none → Q (.ref l) (upd H l (.lst ((List.range' 0 n).map fun i => V.int (i : Nat))))) := by
  intro pins s σ H vs us Q J rv h
  obtain ⟨r, n, rfl, hr, hn, q⟩ := h
  obtain ⟨u, rfl, ru⟩ := vals1 rv
  cases ru
  obtain ⟨t, u, v, look⟩ := (show ∃ t u v, s.heap.get? r = some { cls := .type "range", data := .fields #[.int 0 t, .int (n : Nat) u, .int 1 v] } from J.hok r _ hr)
  refine call_list_range (n := n) (J.ok.hd calm) look ?_ ?_ (by omega) fun h2 tk acc c2 kept hS items => ?_
  · exact small_one (by omega) (by omega) (by omega) (by omega)
  · rw [rangeSize_nat]
    omega
  · obtain ⟨size, each⟩ := items
    have fr : H s.heap.objs.size = none := J.hok.fresh (Nat.le_refl _)
    refine ⟨.ref s.heap.objs.size, upd H s.heap.objs.size (.lst ((List.range' 0 n).map fun i => V.int (i : Nat))), J.laid (t' := tk) kept (Nat.le_refl _) ⟨?_, acc.toList, c2, ?_, hS⟩, rfl, q _ fr⟩
    · rw [List.length_map, List.length_range']
      exact Nat.le_trans hn (by decide)
    · refine vals_from n 0 (by simpa using size) fun j v hj => ?_
      obtain ⟨t, e⟩ := each j v (by simpa using hj)
      exact ⟨t, by rw [e]; congr 1; omega⟩
end
end G0

namespace G0
open PySem PySem.Spec PyProof.Rows L2
abbrev s_law_spots : Stmt := top 38
abbrev s_law_handed : Stmt := top 39
abbrev s_law_mixed : Stmt := top 40
abbrev s_law_shows : Stmt := top 41
abbrev s_right : Stmt := top 42
abbrev s_parts : Stmt := top 43
abbrev s_law : Stmt := top 44
theorem boot_sorted : bootBuiltins "sorted" = some (.builtin "sorted") := by decide +kernel
theorem boot_trange : bootBuiltins "range" = some (.type "range") := by decide +kernel
section
variable {P : Program} {w : World} {K : PySem.W.Frag} {mg : Str → Option Value} {base : Heap}
theorem ne_of_none' {H : Hp} {a b : Addr} {o : HO} (h : H b = some o) (n : H a = none) : a ≠ b := fun e => by
  rw [e, h] at n
  cases n
/-- what is known, but of one thing that changes -/
def del (D : Hp) (L : Addr) : Hp := fun a => if a = L then none else D a
theorem del_at {D : Hp} {L : Addr} : del D L L = none := if_pos rfl
theorem del_ne {D : Hp} {L a : Addr} (h : a ≠ L) : del D L a = D a := if_neg h
theorem same_del {D D' : Hp} {L : Addr} (n : D L = none) (e : Same D D') : Same D (del D' L) := fun b o h => by
  rw [del_ne (ne_of_none h n)]
  exact e _ _ h
theorem Wd.del {p L : Addr} {D H : Hp} (w : Wd p D H) : Wd p (del D L) H := by
  refine ⟨fun b o e => ?_, ?_, w.pot⟩
  · by_cases eb : b = L
    · rw [eb, del_at] at e
      cases e
    · rw [del_ne eb] at e
      exact w.s _ _ e
  · by_cases eb : p = L
    · rw [eb]
      exact del_at
    · rw [del_ne eb]
      exact w.n
theorem Wd.over {p L : Addr} {D H : Hp} {o : HO} (w : Wd p D H) (n : D L = none) (hp : L ≠ p) : Wd p D (upd H L o) := by
  obtain ⟨s, n2, a, b, h1, h2, h3, h4⟩ := w
  refine ⟨fun c u e => ?_, n2, a, b, h1, h2, h3, ?_⟩
  · rw [upd_ne (ne_of_none e n)]
    exact s _ _ e
  · rw [upd_ne hp.symm]
    exact h4
/-! same_points -/
def sp_same (K : PySem.W.Frag) (C : Addr) : Sp := fun vs H Q _ => ∃ (x y : Addr) (ts us : List (List Int)), vs = [.ref x, .ref y] ∧ SpotsAt K C H x ts ∧ SpotsAt K C H y us ∧ Good ts ∧ Good us ∧ ∀ H' b, Same H H' → (b = true ↔ ts.Perm us) → Q (.bl b) H'
theorem sc_same : FnScope ["spots", "other"] ["spots", "other"] (defScope s_same_points) := ⟨rfl, rfl, rfl, by decide +kernel, rfl, by decide +kernel, by decide +kernel⟩
theorem Good.ne {ts : List (List Int)} (g : Good ts) : ∀ t ∈ ts, t ≠ [] := fun t ht e => by
  have := g.len t ht
  rw [e] at this
  cases this
theorem ok_same {f C f1 fP : Addr} {fd fd1 dP : FuncData} (F : Fun K "same_points" "same_points" s_same_points f fd) (T : SpTxt K mg C) (nS : mg "sorted" = none) (D1 : Df K mg "check_spots" s_check_spots ["spots"] f1 fd1) (G1 : FnOk P w K mg base CX0 1 f1 fd1 ["spots"] (sp_check_spots K C))
    (mP : Meth K C "points" fP) (bP : Binds K dP ["self"] []) (GP : FnOk P w K mg base CX0 1 fP dP ["self"] (sp_points K C)) : FnOk P w K mg base CX0 2 f fd ["spots", "other"] (sp_same K C) := by
  refine F.ok sc_same (fun vs H Q E h => ?_) (fun cdv A outer s H vs Q E hr h => ?_)
  · obtain ⟨x, y, ts, us, rfl, _⟩ := h
    rfl
  · obtain ⟨x, y, ts, us, rfl, sx, sy, gx, gy, q⟩ := h
    have hu := hr.units
    obtain ⟨dx, lx, vx, x1, x2, x3⟩ := id sx
    obtain ⟨dy, ly, vy, y1, y2, y3⟩ := id sy
    refine ⟨_, pss_cons (ps_expr (pdf D1 G1 hr (pa_cons (pv 0) pa_nil))) (pss_cons (ps_expr (pdf D1 G1 hr (pa_cons (pv 1) pa_nil)))
      (pss_one (ps_ret (pe_cmpR (op_eqD hu) (pe_callB cr_sortD (by rfl) nS boot_sorted (pa_cons (pe_meth0 (pv 0) T.cl mP GP hr bP .nil pass0) pa_nil)) (pe_callB cr_sortD (by rfl) nS boot_sorted (pa_cons (pe_meth0 (E := E0) (pv 1) T.cl mP GP hr bP .nil pass0) pa_nil)) (nomark _))))), ?_⟩
    refine ⟨_, rfl, x, ts, rfl, sx, ?_⟩
    refine ⟨_, rfl, y, us, rfl, sy, ?_⟩
    refine ⟨_, rfl, x, dx, _, rfl, x1, rfl, x, ts, rfl, sx, fun H1 l1 s1 n1 t1 => ?_⟩
    obtain ⟨v1, h1, d1⟩ := t1
    refine ⟨l1, v1, ts, rfl, SqL.mk h1, d1, gx.ne, fun ys us1 p1 perm1 pw1 np1 dp1 => ?_⟩
    have sA := s1.trans (same_new (o := .lst ys) np1)
    refine ⟨_, rfl, y, dy, _, rfl, sA _ _ y1, rfl, y, us, rfl, sy.same sA, fun H2 l2 s2 n2 t2 => ?_⟩
    obtain ⟨v2, h2, d2⟩ := t2
    refine ⟨l2, v2, us, rfl, SqL.mk h2, d2, gy.ne, fun zs us2 p2 perm2 pw2 np2 dp2 => ?_⟩
    have sB := s2.trans (same_new (o := .lst zs) np2)
    have e1 : (upd H1 p1 (.lst ys)) p1 = some (.lst ys) := upd_same
    refine ⟨_, _, .lst (SqL.mk (sB _ _ e1)) (DpAll.same ((same_new np1).trans sB) dp1), .lst (SqL.mk upd_same) (DpAll.same (same_new np2) dp2), shaped_tups us1, shaped_tups us2, ?_⟩
    rw [eqv_ltups]
    refine q _ _ (sA.trans sB) ?_
    rw [decide_eq_true_iff]
    constructor
    · intro e
      rw [e] at perm1
      exact perm1.symm.trans perm2
    · intro pp
      exact sorted_same pw1 pw2 (perm1.trans (pp.trans perm2.symm))
/-! _law_spots -/
/-- a list of told points among what is known -/
def TList (K : PySem.W.Frag) (D : Hp) (v : V) (ts : List (List Int)) : Prop := ∃ L vs, v = .ref L ∧ D L = some (.lst vs) ∧ DpAll K D vs (ts.map dTup)
theorem TList.same {K : PySem.W.Frag} {D D' : Hp} {v : V} {ts : List (List Int)} (e : Same D D') (h : TList K D v ts) : TList K D' v ts := by
  obtain ⟨L, vs, h1, h2, h3⟩ := h
  exact ⟨L, vs, h1, e _ _ h2, DpAll.same e h3⟩
def sp_law_spots (K : PySem.W.Frag) : Sp := fun vs H Q _ => ∃ (p : Addr) (m b : Int) (D : Hp), vs = [.ref p, .int m, .int b] ∧ Wd p D H ∧ 1 ≤ m ∧ m ≤ 12 ∧ 1 ≤ b ∧ b < 1000000 ∧ Gets p D (fun v D' => ∃ ts, TList K D' v ts ∧ Good ts ∧ ts.length ≤ 12 ∧ ∀ t ∈ ts, ∀ n ∈ t, n.natAbs < 2 ^ 27) Q
theorem sc_law_spots : FnScope ["_law_pot_here", "_law_many", "_law_most", "_law_found", "_law_turn", "_law_point_here"] ["_law_pot_here", "_law_many", "_law_most"] (defScope s_law_spots) := ⟨rfl, rfl, rfl, by decide +kernel, rfl, by decide +kernel, by decide +kernel⟩
/-- what such a list is while it grows -/
structure Grow (ts : List (List Int)) : Prop where
  nd : ts.Nodup
  len : ∀ t ∈ ts, t.length = 3
  nz : ∀ t ∈ ts, ∃ n ∈ t, n ≠ 0
  sm : ∀ t ∈ ts, ∀ n ∈ t, n.natAbs < 2 ^ 27
  told : ∀ t ∈ ts, plainI t = t
theorem Grow.snoc {ts : List (List Int)} {t : List Int} (g : Grow ts) (len : t.length = 3) (nz : ∃ n ∈ t, n ≠ 0) (sm : ∀ n ∈ t, n.natAbs < 2 ^ 27) (told : plainI t = t) (no : t ∉ ts) : Grow (ts ++ [t]) := by
  have cs : ∀ u ∈ ts ++ [t], u ∈ ts ∨ u = t := fun u hu => (List.mem_append.mp hu).imp id List.mem_singleton.mp
  refine ⟨?_, fun u hu => (cs u hu).elim (g.len u) (fun e => e ▸ len), fun u hu => (cs u hu).elim (g.nz u) (fun e => e ▸ nz), fun u hu => (cs u hu).elim (g.sm u) (fun e => e ▸ sm), fun u hu => (cs u hu).elim (g.told u) (fun e => by rw [e]; exact told)⟩
  refine List.nodup_append.mpr ⟨g.nd, by simp, fun a ha b hb => ?_⟩
  rw [List.mem_singleton.mp hb]
  exact fun e => no (e ▸ ha)
theorem Grow.good {ts : List (List Int)} (g : Grow ts) (h1 : 1 ≤ ts.length) (h2 : ts.length ≤ 24) : Good ts := ⟨h1, h2, g.nd, g.len, g.nz, fun t ht n hn => Nat.lt_trans (g.sm t ht n hn) (by decide), g.told⟩
theorem ok_law_spots {f f1 f2 : Addr} {fd fd1 fd2 : FuncData} (F : Fun K "_law_spots" "_law_spots" s_law_spots f fd) (B : Blt mg) (D1 : Df K mg "_law_point" s_point ["_law_pot_here", "_law_most"] f1 fd1) (G1 : FnOk P w K mg base CX0 2 f1 fd1 ["_law_pot_here", "_law_most"] sp_point)
    (D2 : Df K mg "_law_told" s_told ["_law_point_here"] f2 fd2) (G2 : FnOk P w K mg base CX0 2 f2 fd2 ["_law_point_here"] (sp_told K)) : FnOk P w K mg base CX0 3 f fd ["_law_pot_here", "_law_many", "_law_most"] (sp_law_spots K) := by
  refine F.ok sc_law_spots (fun vs H Q E h => ?_) (fun cdv A outer s H vs Q E hr h => ?_)
  · obtain ⟨p, m, b, D, rfl, _⟩ := h
    rfl
  · obtain ⟨p, m, b, D, rfl, wd, m1, m2, b1, b2, q⟩ := h
    have hu65 : (A.deeper (envOfC "_law_spots" (defScope s_law_spots) s.heap.objs.size f cdv)).units + 65 < cLine := by
      have := hr.un
      omega
    refine ⟨_, pss_cons (ps_set (i := 3) sc_law_spots.nd rfl (Or.inl rfl) (pe_lst pa_nil))
      (pss_cons (ps_for PassesOwn.never rfl (pi_range1 (by rfl) B.range (pa_cons (pv 1) pa_nil)) (pg_name (i := 4) sc_law_spots.nd rfl (Or.inl rfl))
        (pss_cons (ps_set (i := 5) sc_law_spots.nd rfl (Or.inl rfl) (pdf D2 G2 hr (pa_cons (pdf D1 G1 hr (pa_cons (pv 0) (pa_cons (pv 2) pa_nil))) pa_nil)))
          (pss_one (ps_if (pt_cmpR (op_notInD hu65) (pv 5) (pv 3) (by rfl)) (pss_one (ps_expr (pe_bm PySem.F.plainAttrs_list PySem.F.slot_list_append PySem.F.type_list_append mt_append (pv 3) (pa_cons (pv 5) pa_nil)))) pss_nil))))
      (pss_one (ps_ret (pv 3)))), ?_⟩
    refine ⟨Nat.zero_le _, fun L hL => ?_⟩
    have L0 := wd.s.free hL
    have Lp := wd.ne hL
    refine ⟨_, rfl, m, rfl, by omega, by omega, for_range (n := m.toNat) (fun i σ H1 => ∃ (D1 : Hp) (vs : List V) (ts : List (List Int)) (y4 y5 : Option V), σ = [some (.ref p), some (.int m), some (.int b), some (.ref L), y4, y5] ∧ Same D D1 ∧ Wd p D1 H1 ∧ D1 L = none ∧
      H1 L = some (.lst vs) ∧ DpAll K D1 vs (ts.map dTup) ∧ Grow ts ∧ ts.length ≤ i ∧ (1 ≤ i → 1 ≤ ts.length)) ?_ ?_ ?_⟩
    · refine ⟨D, [], [], none, none, rfl, Same.refl _, ⟨fun c o e => ?_, wd.n, ?_⟩, L0, upd_same, .nil, ⟨by simp, fun _ z => (nomatch z), fun _ z => (nomatch z), fun _ z => (nomatch z), fun _ z => (nomatch z)⟩, Nat.le_refl _, fun z => by omega⟩
      · rw [upd_ne (ne_of_none e L0)]
        exact wd.s _ _ e
      · obtain ⟨a, c, h1, h2, h3, h4⟩ := wd.pot
        exact ⟨a, c, h1, h2, h3, by rw [upd_ne Lp.symm]; exact h4⟩
    · rintro i σ H1 hi ⟨D1, vs, ts, y4, y5, rfl, s1, w1, n1, hL1, dp, gr, le, ge⟩
      have wL := w1.got n1 Lp hL1
      refine ⟨_, rfl, _, rfl, p, b, _, rfl, wL, b1, b2, ?_⟩
      rintro _ D2 H2 s2 w2 ⟨l, a, b3, c, rfl, hl, nz, bd⟩
      have sm : ∀ n ∈ [a, b3, c], n.natAbs < 2 ^ 27 := fun n hn => by
        have := bd n hn
        have e30 : (2 : Nat) ^ 27 = 134217728 := rfl
        omega
      refine ⟨l, [a, b3, c], rfl, SqL.mk (w2.s _ _ hl), nz, fun n hn => Nat.lt_trans (sm n hn) (by decide), by show 3 ≤ 1000; decide, fun H3 t s3 n3 h3 => ?_⟩
      have hL2 : D2 L = some (.lst vs) := s2 _ _ upd_same
      have hL3 : H3 L = some (.lst vs) := s3 _ _ (w2.s _ _ hL2)
      have ntL : t ≠ L := ne_of_none' hL2 (w2.s.free n3)
      have sd : Same D1 (del D2 L) := same_del n1 ((same_new n1).trans s2)
      have wd3 : Wd p (del D2 L) H3 := (w2.pure s3).del
      have t0 : del D2 L t = none := by
        rw [del_ne ntL]
        exact w2.s.free n3
      have w4 := wd3.got t0 (w2.ne n3) h3
      have sd4 : Same D1 (upd (del D2 L) t (.tup ((plainI [a, b3, c]).map V.int))) := sd.trans (same_new t0)
      have nL4 : upd (del D2 L) t (.tup ((plainI [a, b3, c]).map V.int)) L = none := by
        rw [upd_ne ntL.symm]
        exact del_at
      refine ⟨_, rfl, _, rfl, dTup (plainI [a, b3, c]), ts.map dTup, dp_tup (SqT.mk h3), .lst (SqL.mk hL3) (DpAll.same (sd4.trans w4.s) dp), shaped_tup _, shaped_tups _, ?_⟩
      rw [any_eqv]
      refine ⟨_, rfl, ?_⟩
      by_cases mem : plainI [a, b3, c] ∈ ts
      · rw [decide_eq_true mem]
        exact iteF ⟨_, vs, ts, _, _, rfl, s1.trans sd4, w4, nL4, hL3, DpAll.same sd4 dp, gr, by omega, fun _ => List.length_pos_of_mem mem⟩
      · rw [decide_eq_false mem]
        refine iteT ?_
        have vl : vs.length = ts.length := by rw [DpAll.len dp, List.length_map]
        refine ⟨_, rfl, .inl ⟨rfl, _, SqL.mk hL3⟩, _, rfl, L, _, _, rfl, rfl, hL3, Nat.lt_of_le_of_lt (show vs.length ≤ 12 by omega) (by decide), ?_⟩
        refine ⟨_, vs ++ [.ref t], ts ++ [plainI [a, b3, c]], _, _, rfl, s1.trans sd4, w4.over nL4 Lp, nL4, upd_same, ?_, gr.snoc (plainI_len _) (plainI_nz nz) (plainI_le nz sm) (plainI_told nz) mem, by rw [List.length_append]; show ts.length + 1 ≤ i + 1; omega, fun _ => by rw [List.length_append]; show 1 ≤ ts.length + 1; omega⟩
        rw [List.map_append]
        exact DpAll.append (DpAll.same sd4 dp) (.cons (dp_tup (SqT.mk upd_same)) .nil)
    · rintro σ H1 ⟨D1, vs, ts, y4, y5, rfl, s1, w1, n1, hL1, dp, gr, le, ge⟩
      refine ⟨_, rfl, q _ _ _ (s1.trans (same_new n1)) (w1.got n1 Lp hL1) ⟨ts, ⟨L, vs, rfl, upd_same, DpAll.same (same_new n1) dp⟩, gr.good (ge (by omega)) (by omega), by omega, gr.sm⟩⟩
end
end G0

namespace G0
open PySem PySem.Spec PyProof.Rows L2
/-- points handed as multiples, as lists or tuples, in a list or a tuple -/
def HandedAs (K : PySem.W.Frag) (D : Hp) (us : List V) (ts : List (List Int)) : Prop := ∃ ds, us.length = ts.length ∧ DpAll K D us ds ∧ FineAll ds 1 (15470 * us.length) ∧ ∀ (j : Nat) (u : V) (t : List Int), us[j]? = some u → ts[j]? = some t → ∃ t', Pt K D u t' ∧ plainI t' = t
theorem HandedAs.same {K : PySem.W.Frag} {D D' : Hp} {us : List V} {ts : List (List Int)} (e : Same D D') (h : HandedAs K D us ts) : HandedAs K D' us ts := by
  obtain ⟨ds, h1, h2, h3, h4⟩ := h
  refine ⟨ds, h1, DpAll.same e h2, h3, fun j u t hu ht => ?_⟩
  obtain ⟨t', p, q⟩ := h4 j u t hu ht
  exact ⟨t', p.same e, q⟩
theorem HandedAs.snoc {K : PySem.W.Frag} {D : Hp} {us : List V} {ts : List (List Int)} {u : V} {t t' : List Int} {d : PyData} (h : HandedAs K D us ts) (p : Pt K D u t') (e : plainI t' = t) (dp : Dp K D u d) (sh : d.showable = true) (nd : d.hasDict = false) (dep : d.depth ≤ 1) (sz : szD d ≤ 15468) : HandedAs K D (us ++ [u]) (ts ++ [t]) := by
  obtain ⟨ds, h1, h2, h3, h4⟩ := h
  have fa : ∀ es : List PyData, FineAll es 1 (15470 * es.length) → FineAll (es ++ [d]) 1 (15470 * (es.length + 1)) := by
    intro es
    induction es with
    | nil =>
      intro _
      have f := FineAll.cons (dep := 1) sh nd dep sz (FineAll.nil (dep := 1) (sz := 0))
      exact ⟨f.sh, f.nd, f.dep, Nat.le_trans f.sz (by show 15468 + 2 + 0 ≤ 15470 * (0 + 1); omega)⟩
    | cons x es ih =>
      intro g
      have ihs : FineAll es 1 (szAll es) := by
        have a1 := g.sh
        have a2 := g.nd
        have a3 := g.dep
        simp only [PyData.showableAll, Bool.and_eq_true] at a1
        simp only [PyData.hasDictAll, Bool.or_eq_false_iff] at a2
        simp only [PyData.depthAll] at a3
        exact ⟨a1.2, a2.2, by omega, Nat.le_refl _⟩
      have a1 := g.sh
      have a2 := g.nd
      have a3 := g.dep
      have a4 := g.sz
      simp only [PyData.showableAll, Bool.and_eq_true] at a1
      simp only [PyData.hasDictAll, Bool.or_eq_false_iff] at a2
      simp only [PyData.depthAll] at a3
      simp only [szAll] at a4
      have app : ∀ zs : List PyData, PyData.showableAll (zs ++ [d]) = (PyData.showableAll zs && d.showable) ∧ PyData.hasDictAll (zs ++ [d]) = (PyData.hasDictAll zs || d.hasDict) ∧ PyData.depthAll (zs ++ [d]) = max (PyData.depthAll zs) d.depth ∧ szAll (zs ++ [d]) = szAll zs + (szD d + 2) := by
        intro zs
        induction zs with
        | nil => simp [PyData.showableAll, PyData.hasDictAll, PyData.depthAll, szAll]
        | cons z zs ih =>
          obtain ⟨i1, i2, i3, i4⟩ := ih
          simp only [List.cons_append, PyData.showableAll, PyData.hasDictAll, PyData.depthAll, szAll, i1, i2, i3, i4]
          refine ⟨by rw [Bool.and_assoc], by rw [Bool.or_assoc], by omega, by omega⟩
      obtain ⟨i1, i2, i3, i4⟩ := app (x :: es)
      refine ⟨by rw [i1, g.sh, sh]; rfl, by rw [i2, g.nd, nd]; rfl, by rw [i3]; have := g.dep; omega, by rw [i4]; have := g.sz; rw [List.length_cons] at *; omega⟩
  have ld : ds.length = us.length := (DpAll.len h2).symm
  refine ⟨ds ++ [d], by rw [List.length_append, List.length_append, h1]; rfl, DpAll.append h2 (.cons dp .nil), ?_, fun j u2 t2 hu ht => ?_⟩
  · rw [List.length_append, ← ld]
    exact fa ds (by rw [ld]; exact h3)
  · by_cases hj : j < us.length
    · rw [List.getElem?_append_left hj] at hu
      rw [List.getElem?_append_left (by omega)] at ht
      exact h4 j u2 t2 hu ht
    · rw [List.getElem?_append_right (by omega)] at hu
      rw [List.getElem?_append_right (by omega)] at ht
      have hz : j - us.length = 0 := by
        have := (List.getElem?_eq_some_iff.mp hu).1
        simp at this
        omega
      rw [hz] at hu
      rw [show j - ts.length = 0 by omega] at ht
      cases hu
      cases ht
      exact ⟨t', p, e⟩
theorem Sq.del {K : PySem.W.Frag} {D : Hp} {a M : Addr} {xs : List V} (h : Sq K D a xs) (n : a ≠ M) : Sq K (del D M) a xs := by
  rcases h with ((h | ⟨o, h⟩) | h) | ((h | ⟨o, h⟩) | h)
  · exact .inl (.inl (.inl (by rw [del_ne n]; exact h)))
  · exact .inl (.inl (.inr ⟨o, by rw [del_ne n]; exact h⟩))
  · exact .inl (.inr h)
  · exact .inr (.inl (.inl (by rw [del_ne n]; exact h)))
  · exact .inr (.inl (.inr ⟨o, by rw [del_ne n]; exact h⟩))
  · exact .inr (.inr h)
theorem sq_dp1 {K : PySem.W.Frag} {D : Hp} {g : Addr} {ns : List Int} (h : Sq K D g (ns.map V.int)) (s : Sm ns) (l : ns.length ≤ 8) : ∃ d, Dp K D (.ref g) d ∧ d.showable = true ∧ d.hasDict = false ∧ d.depth ≤ 1 ∧ szD d ≤ 15468 := by
  have f := fine_ints s
  rcases h with h | h
  · exact ⟨_, dp_lst h, by simp only [PyData.showable]; exact f.sh, by simp only [PyData.hasDict]; exact f.nd, by have := f.dep; simp only [PyData.depth]; omega, by have := f.sz; simp only [szD]; omega⟩
  · exact ⟨_, dp_tup h, by simp only [PyData.showable]; exact f.sh, by simp only [PyData.hasDict]; exact f.nd, by have := f.dep; simp only [PyData.depth]; omega, by have := f.sz; simp only [szD]; omega⟩
section
variable {P : Program} {w : World} {K : PySem.W.Frag} {mg : Str → Option Value} {base : Heap}
def sp_handed (K : PySem.W.Frag) : Sp := fun vs H Q _ => ∃ (p : Addr) (v : V) (D : Hp) (ts : List (List Int)), vs = [.ref p, v] ∧ Wd p D H ∧ TList K D v ts ∧ Good ts ∧ (∀ t ∈ ts, ∀ n ∈ t, n.natAbs < 2 ^ 27) ∧ Gets p D (fun v D' => ∃ M us, v = .ref M ∧ Sq K D' M us ∧ HandedAs K D' us ts) Q
theorem sc_handed : FnScope ["_law_pot_here", "_law_found", "_law_handed_here", "_law_point_here", "_law_times", "_law_number"] ["_law_pot_here", "_law_found"] (defScope s_law_handed) := ⟨rfl, rfl, rfl, by decide +kernel, rfl, by decide +kernel, by decide +kernel⟩
theorem ok_handed {f f1 f2 f3 : Addr} {fd fd1 fd2 fd3 : FuncData} (F : Fun K "_law_handed" "_law_handed" s_law_handed f fd) (B : Blt mg) (D1 : Df K mg "_law_pick" s_pick ["_law_pot_here", "_law_some"] f1 fd1) (G1 : FnOk P w K mg base CX0 2 f1 fd1 ["_law_pot_here", "_law_some"] (sp_pick K))
    (D2 : Df K mg "_law_given" s_given ["_law_pot_here", "_law_point_here"] f2 fd2) (G2 : FnOk P w K mg base CX0 2 f2 fd2 ["_law_pot_here", "_law_point_here"] (sp_given K)) (D3 : Df K mg "_law_draw" s_draw ["_law_pot_here", "_law_many"] f3 fd3) (G3 : FnOk P w K mg base CX0 1 f3 fd3 ["_law_pot_here", "_law_many"] sp_draw) :
    FnOk P w K mg base CX0 3 f fd ["_law_pot_here", "_law_found"] (sp_handed K) := by
  refine F.ok sc_handed (fun vs H Q E h => ?_) (fun cdv A outer s H vs Q E hr h => ?_)
  · obtain ⟨p, v, D, ts, rfl, _⟩ := h
    rfl
  · obtain ⟨p, v, D, ts, rfl, wd, ⟨L, vs, rfl, hL, hd⟩, g, g27, q⟩ := h
    have lv : vs.length = ts.length := by rw [DpAll.len hd, List.length_map]
    have hmost := g.most
    refine ⟨_, pss_cons (ps_set (i := 2) sc_handed.nd rfl (Or.inl rfl) (pe_lst pa_nil))
      (pss_cons (ps_for PassesOwn.never rfl (pi_list (pv 1)) (pg_name (i := 3) sc_handed.nd rfl (Or.inl rfl))
        (pss_cons (ps_set (i := 4) sc_handed.nd rfl (Or.inr rfl) (pdf D1 G1 hr (pa_cons (pv 0) (pa_cons (pe_lst (pa_cons pe_int (pa_cons (pe_un un_neg pe_int) (pa_cons pe_int (pa_cons (pe_un un_neg pe_int) pa_nil))))) pa_nil))))
          (pss_one (ps_expr (pe_bm PySem.F.plainAttrs_list PySem.F.slot_list_append PySem.F.type_list_append mt_append (pv 2) (pa_cons (pdf D2 G2 hr (pa_cons (pv 0) (pa_cons (pe_lc (own := [("_law_number", 5)]) (g := gName 5) (tt := tYes) rfl sc_handed.nd (pi_tup (pv 3))
            (blkOk_by (N := ["_law_pot_here", "_law_found", "_law_handed_here", "_law_point_here", "_law_times", "_law_number"]) (sc := defScope s_law_handed) (by decide +kernel)) (fun _ _ _ _ _ => pg_name (i := 5) sc_handed.nd rfl (Or.inl rfl)) (fun _ _ _ _ _ => pts_nil) (fun _ _ _ _ _ => pe_op op_mul (pv 4) (pv 5))) pa_nil))) pa_nil))))))
      (pss_one (ps_ret (pe_ifExp (pt_cmpR op_eq (pdf D3 G3 (hr.mono (by decide)) (pa_cons (pv 0) (pa_cons pe_int pa_nil))) pe_int (nomark _)) (pv 2) (pe_callTy call_tuple_of (by rfl) B.tuple boot_ttuple (pa_cons (pv 2) pa_nil)))))), ?_⟩
    refine ⟨Nat.zero_le _, fun M hM => ?_⟩
    have M0 := wd.s.free hM
    have Mp := wd.ne hM
    have sM := same_new (o := .lst []) hM
    refine ⟨_, rfl, L, rfl, ⟨_, SqL.mk (sM _ _ (wd.s _ _ hL))⟩, for_list (K := K) (a := L) (xs := vs) (fun i σ H1 => ∃ (D1 : Hp) (us : List V) (y3 y4 : Option V), σ = [some (.ref p), some (.ref L), some (.ref M), y3, y4, none] ∧ Same D D1 ∧ Wd p D1 H1 ∧ D1 M = none ∧
      H1 M = some (.lst us) ∧ HandedAs K D1 us (ts.take i)) ?_ ?_ ?_ ?_⟩
    · refine ⟨D, [], none, none, rfl, Same.refl _, ⟨wd.s.trans sM, wd.n, ?_⟩, M0, upd_same, ⟨[], rfl, .nil, FineAll.nil, fun j u t h => by simp at h⟩⟩
      obtain ⟨a, c, h1, h2, h3, h4⟩ := wd.pot
      exact ⟨a, c, h1, h2, h3, by rw [upd_ne Mp.symm]; exact h4⟩
    · rintro i σ H1 _ ⟨D1, us, y3, y4, rfl, s1, w1, n1, hM1, ha⟩
      exact SqL.mk (w1.s _ _ (s1 _ _ hL))
    · rintro i x σ H1 hx ⟨D1, us, y3, y4, rfl, s1, w1, n1, hM1, ha⟩
      obtain ⟨t, ht⟩ : ∃ t, ts[i]? = some t := by
        have := (List.getElem?_eq_some_iff.mp hx).1
        exact ⟨ts[i]'(by omega), List.getElem?_eq_getElem _⟩
      have mt := List.mem_of_getElem? ht
      have dx := dp_at (i := i) hd hx (by rw [List.getElem?_map, ht]; rfl)
      cases dx with
      | @tup xa xs _ hs hall =>
        obtain rfl := dp_int hall
        have wM := w1.got n1 Mp hM1
        -- times
        refine ⟨_, rfl, _, rfl, _, rfl, by show 4 ≤ sizeLine; decide, fun tl htl => ?_⟩
        have wM2 := wM.pure (same_new (o := .lst [.int 1, .int (-1), .int 2, .int (-5)]) htl)
        obtain ⟨w2, s2, h2⟩ := wM.new (same_new (o := .lst [.int 1, .int (-1), .int 2, .int (-5)]) htl) htl upd_same
        refine ⟨p, tl, _, _, rfl, w2, SqL.mk h2, by show 1 ≤ 4; decide, by show 4 < 1000000; decide, fun H3 v3 w3 hv3 => ?_⟩
        obtain ⟨k, rfl, k0, kb⟩ : ∃ k : Int, v3 = .int k ∧ k ≠ 0 ∧ k.natAbs ≤ 5 := by
          simp only [List.mem_cons, List.not_mem_nil, or_false] at hv3
          rcases hv3 with rfl | rfl | rfl | rfl <;> exact ⟨_, rfl, by decide, by decide⟩
        have sd2 : Same D1 (upd (upd D1 M (.lst us)) tl (.lst [.int 1, .int (-1), .int 2, .int (-5)])) := (same_new n1).trans s2
        have hM3 : H3 M = some (.lst us) := w3.s _ _ (s2 _ _ upd_same)
        have hs3 : SqT K H3 xa (t.map V.int) := same_t ((s1.trans sd2).trans w3.s) hs
        have t3 : t.length = 3 := g.len t mt
        let FX : V → Option V := fun x => match x with | .int n => some (.int (k * n)) | _ => none
        have fx : ∀ ns : List Int, fm FX (ns.map V.int) = (ns.map fun n => k * n).map V.int := by
          intro ns
          induction ns with
          | nil => rfl
          | cons n ns ih =>
            show V.int (k * n) :: fm FX (ns.map V.int) = V.int (k * n) :: (ns.map fun n => k * n).map V.int
            rw [ih]
        refine ⟨_, rfl, .inl ⟨rfl, _, SqL.mk hM3⟩, _, rfl, _, rfl, xa, rfl, ⟨_, hs3⟩, fun l hl => lcT FX hs3 (by rw [List.length_map, t3]; decide) hl (fun x hx H4 _ G N _ g2 => ?_) fun H4 s4 h4 => ?_⟩
        · obtain ⟨n, hn, rfl⟩ := mem_int hx
          refine ⟨rfl, yes_ite ?_⟩
          refine ⟨_, rfl, _, rfl, _, _, rfl, rfl, ?_, g2 _ rfl _ (Same.refl _)⟩
          exact .inl ⟨by omega, by omega⟩
        rw [fx] at h4
        obtain ⟨w4, s5, h5⟩ := w3.new s4 hl h4
        have sd4 := sd2.trans s5
        have mM : ∀ {D' : Hp}, Same (upd D1 M (.lst us)) D' → D' M = some (.lst us) := fun e => e _ _ upd_same
        refine ⟨p, l, _, _, rfl, w4, SqL.mk h5, fun v5 D5 H5 s6 w5 hv5 => ?_⟩
        obtain ⟨q5, rfl, hq5, no5⟩ := hv5
        have sA := (s2.trans s5).trans s6
        have hM5 : H5 M = some (.lst us) := w5.s _ _ (sA _ _ upd_same)
        have wd6 : Wd p (del D5 M) H5 := w5.del
        have nM6 : (del D5 M) M = none := del_at
        have sd6 : Same D1 (del D5 M) := same_del n1 ((same_new n1).trans sA)
        have q5M : q5 ≠ M := ne_of_none' (((s2.trans s5) _ _ upd_same)) no5
        have li : us.length = i := by
          rw [ha.choose_spec.1, List.length_take]
          have := (List.getElem?_eq_some_iff.mp ht).1
          omega
        have i24 : i < 24 := by
          have := (List.getElem?_eq_some_iff.mp ht).1
          omega
        refine ⟨M, _, _, rfl, rfl, hM5, Nat.lt_of_le_of_lt (show us.length ≤ 24 by omega) (by decide), ?_⟩
        refine ⟨_, us ++ [.ref q5], _, _, rfl, s1.trans sd6, wd6.over nM6 Mp, nM6, upd_same, ?_⟩
        rw [List.take_add_one, ht]
        have hq6 : Sq K (del D5 M) q5 ((t.map fun n => k * n).map V.int) := hq5.del q5M
        have nzk : ∃ n ∈ (t.map fun n => k * n), n ≠ 0 := by
          obtain ⟨n, hn, h0⟩ := g.nz t mt
          exact ⟨k * n, List.mem_map.mpr ⟨n, hn, rfl⟩, Int.mul_ne_zero k0 h0⟩
        have smk : ∀ n ∈ (t.map fun n => k * n), n.natAbs < 2 ^ 30 := fun n hn => by
          obtain ⟨m, hm, rfl⟩ := List.mem_map.mp hn
          have b1 := g27 t mt m hm
          rw [Int.natAbs_mul]
          have b2 : k.natAbs * m.natAbs ≤ 5 * m.natAbs := Nat.mul_le_mul_right _ kb
          have e27 : (2 : Nat) ^ 27 = 134217728 := rfl
          have e30 : (2 : Nat) ^ 30 = 1073741824 := rfl
          omega
        have lk : (t.map fun n => k * n).length = 3 := by rw [List.length_map, t3]
        have pt : Pt K (del D5 M) (.ref q5) (t.map fun n => k * n) := by
          refine ⟨?_, nzk, smk⟩
          obtain ⟨a, b, c, e⟩ : ∃ a b c, (t.map fun n => k * n) = [a, b, c] := by
            revert lk
            generalize (t.map fun n => k * n) = zs
            intro lk
            match zs, lk with
            | [a, b, c], _ => exact ⟨a, b, c, rfl⟩
          exact ⟨q5, a, b, c, rfl, e, e ▸ hq6⟩
        obtain ⟨d, d1, d2, d3, d4, d5⟩ := sq_dp1 hq6 (fun n hn => Nat.lt_trans (smk n hn) (by decide +kernel)) (by omega)
        exact (ha.same sd6).snoc pt ((plainI_scale k0 (g.nz t mt)).trans (g.told t mt)) d1 d2 d3 d4 d5
    · rintro σ H1 ⟨D1, us, y3, y4, rfl, s1, w1, n1, hM1, ha⟩
      rw [List.take_of_length_le (by omega)] at ha
      have wM := w1.got n1 Mp hM1
      refine ⟨_, rfl, p, 2, _, rfl, wM, by decide, by decide, fun H2 d w2 d0 d1 => ⟨rfl, _, rfl, ?_⟩⟩
      have hM2 : H2 M = some (.lst us) := w2.s _ _ upd_same
      have hM' : upd D1 M (.lst us) M = some (.lst us) := upd_same
      have sD : Same D (upd D1 M (.lst us)) := s1.trans (same_new n1)
      have ha2 := ha.same (same_new (o := .lst us) n1)
      refine ite2 (fun e => ?_) (fun e => ?_)
      · exact ⟨_, rfl, q _ _ _ sD w2 ⟨M, us, rfl, .inl (SqL.mk hM'), ha2⟩⟩
      · refine ⟨_, rfl, M, us, rfl, .inl ⟨SqL.mk hM2, fun t ht => ?_⟩⟩
        obtain ⟨w3, s3, h3⟩ := w2.new (same_new (o := .tup us) ht) ht upd_same
        exact q _ _ _ (sD.trans s3) w3 ⟨t, us, rfl, .inr (SqT.mk h3), ha2.same s3⟩
end
end G0

namespace G0
open PySem PySem.Spec PyProof.Rows L2
theorem perm_move {α : Type} : ∀ (as bs : List α) {k : Nat} {t : α}, bs[k]? = some t → ((as ++ [t]) ++ bs.eraseIdx k).Perm (as ++ bs) := by
  intro as bs k t h
  rw [List.append_assoc]
  refine List.Perm.append_left as ?_
  have hk := (List.getElem?_eq_some_iff.mp h).1
  have e : bs = bs.take k ++ t :: bs.drop (k + 1) := by
    have e2 := (List.getElem?_eq_some_iff.mp h).2
    rw [← e2]
    rw [List.getElem_cons_drop, List.take_append_drop]
  rw [List.eraseIdx_eq_take_drop_succ]
  refine List.Perm.trans ?_ (List.Perm.of_eq e.symm)
  exact (List.perm_middle.symm : (t :: (bs.take k ++ bs.drop (k + 1))).Perm _)
theorem DpAll.erase {K : PySem.W.Frag} {H : Hp} : ∀ (k : Nat) {vs : List V} {ds : List PyData}, DpAll K H vs ds → DpAll K H (vs.eraseIdx k) (ds.eraseIdx k)
  | _, _, _, .nil => by simp only [List.eraseIdx_nil]; exact .nil
  | 0, _, _, .cons _ h => h
  | k + 1, _, _, .cons h1 h => .cons h1 (DpAll.erase k h)
section
variable {P : Program} {w : World} {K : PySem.W.Frag} {mg : Str → Option Value} {base : Heap}
def sp_mixed (K : PySem.W.Frag) : Sp := fun vs H Q _ => ∃ (p : Addr) (v : V) (D : Hp) (ts : List (List Int)), vs = [.ref p, v] ∧ Wd p D H ∧ TList K D v ts ∧ ts.length ≤ 24 ∧ Gets p D (fun v D' => ∃ us, TList K D' v us ∧ us.Perm ts) Q
theorem sc_mixed : FnScope ["_law_pot_here", "_law_found", "_law_left", "_law_mixed_here"] ["_law_pot_here", "_law_found"] (defScope s_law_mixed) := ⟨rfl, rfl, rfl, by decide +kernel, rfl, by decide +kernel, by decide +kernel⟩
def lenAt (σ : L2.St) (H : Hp) : Nat := match σ with
  | [_, _, some (.ref L), _] => (match H L with | some (.lst vs) => vs.length | _ => 0)
  | _ => 0
theorem lenAt_eq {a b c : Option V} {X : Addr} {H : Hp} {vs : List V} (h : H X = some (.lst vs)) : lenAt [a, b, some (.ref X), c] H = vs.length := by
  show (match H X with | some (.lst vs) => vs.length | _ => 0) = _
  rw [h]
theorem map_er {α β : Type} (f : α → β) (k : Nat) (xs : List α) : (xs.eraseIdx k).map f = (xs.map f).eraseIdx k := by
  rw [List.eraseIdx_eq_take_drop_succ, List.eraseIdx_eq_take_drop_succ, List.map_append, List.map_take, List.map_drop]
theorem ok_mixed {f f3 : Addr} {fd fd3 : FuncData} (F : Fun K "_law_mixed" "_law_mixed" s_law_mixed f fd) (B : Blt mg) (D3 : Df K mg "_law_draw" s_draw ["_law_pot_here", "_law_many"] f3 fd3) (G3 : FnOk P w K mg base CX0 1 f3 fd3 ["_law_pot_here", "_law_many"] sp_draw) :
    FnOk P w K mg base CX0 2 f fd ["_law_pot_here", "_law_found"] (sp_mixed K) := by
  refine F.ok sc_mixed (fun vs H Q E h => ?_) (fun cdv A outer s H vs Q E hr h => ?_)
  · obtain ⟨p, v, D, ts, rfl, _⟩ := h
    rfl
  · obtain ⟨p, v, D, ts, rfl, wd, ⟨L, vs, rfl, hL, hd⟩, h24, q⟩ := h
    have lv : vs.length = ts.length := by rw [DpAll.len hd, List.length_map]
    have hu65 : (A.deeper (envOfC "_law_mixed" (defScope s_law_mixed) s.heap.objs.size f cdv)).units + 64 < cLine := by
      have := hr.un
      omega
    refine ⟨_, pss_cons (ps_par (i := 2) (j := 3) rfl sc_mixed.nd rfl rfl (by decide) rfl rfl (pa_cons (pe_callTy call_list_of (by rfl) B.list boot_tlist (pa_cons (pv 1) pa_nil)) (pa_cons (pe_lst pa_nil) pa_nil)) (by rfl))
      (pss_cons (ps_while PassesOwn.never (pt_cmpR (op_neD hu65) (pv 2) (pe_lst pa_nil) (nomark _))
        (pss_one (ps_expr (pe_bm PySem.F.plainAttrs_list PySem.F.slot_list_append PySem.F.type_list_append mt_append (pv 3) (pa_cons (pe_bm PySem.F.plainAttrs_list PySem.F.slot_list_pop PySem.F.type_list_pop mt_popAt (pv 2) (pa_cons (pdf D3 G3 hr (pa_cons (pv 0) (pa_cons (pe_callB call_len_seq (by rfl) B.len PySem.boot_len (pa_cons (pv 2) pa_nil)) pa_nil))) pa_nil)) pa_nil)))))
      (pss_one (ps_ret (pv 3)))), ?_⟩
    refine ⟨_, rfl, L, vs, rfl, .inl (SqL.mk (wd.s _ _ hL)), fun X hX => ⟨Nat.zero_le _, fun M hM => ?_⟩⟩
    have XM : M ≠ X := fun e => by
      rw [e, upd_same] at hM
      cases hM
    have hM0 : H M = none := by
      rw [upd_ne XM] at hM
      exact hM
    have X0 := wd.s.free hX
    have M0 := wd.s.free hM0
    have Xp := wd.ne hX
    have Mp := wd.ne hM0
    have s1 : Same H (upd (upd H X (.lst vs)) M (.lst [])) := (same_new hX).trans (same_new hM)
    refine ⟨_, _, rfl, while_by (fun σ H1 => ∃ (xs us : List V) (as bs : List (List Int)), σ = [some (.ref p), some (.ref L), some (.ref X), some (.ref M)] ∧ Wd p D H1 ∧ H1 X = some (.lst xs) ∧ H1 M = some (.lst us) ∧ DpAll K D xs (bs.map dTup) ∧ DpAll K D us (as.map dTup) ∧ (as ++ bs).Perm ts)
      lenAt ⟨vs, [], [], ts, rfl, wd.pure s1, (same_new hM) _ _ upd_same, upd_same, hd, .nil, List.Perm.refl _⟩ ?_ ?_⟩
    · rintro σ H1 ⟨xs, us, as, bs, rfl, w1, hX1, hM1, dx, du, pm⟩
      have lx : xs.length = bs.length := by rw [DpAll.len dx, List.length_map]
      have lu : us.length = as.length := by rw [DpAll.len du, List.length_map]
      have lt := pm.length_eq
      rw [List.length_append] at lt
      refine ⟨_, rfl, Nat.zero_le _, fun t ht => ?_⟩
      have s2 := same_new (o := .lst []) ht
      have w2 := w1.pure s2
      refine ⟨.list (bs.map dTup), .list ([].map dTup), .lst (SqL.mk (s2 _ _ hX1)) (DpAll.same w2.s dx), .lst (SqL.mk upd_same) .nil, shaped_tups _, shaped_tups _, ?_⟩
      rw [eqv_ltups]
      by_cases hb : bs = []
      · rw [decide_eq_true hb]
        refine ⟨_, rfl, iteF ?_⟩
        subst hb
        rw [List.append_nil] at pm
        have s3 := same_new (o := .lst us) M0
        have w3 := w2.got M0 Mp (s2 _ _ hM1)
        exact ⟨_, rfl, q _ _ _ s3 w3 ⟨as, ⟨M, us, rfl, upd_same, DpAll.same s3 du⟩, pm⟩⟩
      · rw [decide_eq_false hb]
        refine ⟨_, rfl, iteT ?_⟩
        have hX2 := s2 _ _ hX1
        have hM2 := s2 _ _ hM1
        have wX := (w2.got X0 Xp hX2).got (o := .lst us) (by rw [upd_ne XM]; exact M0) Mp hM2
        have bl : 0 < bs.length := List.length_pos_iff.mpr hb
        refine ⟨_, rfl, .inl ⟨rfl, _, SqL.mk hM2⟩, _, rfl, .inl ⟨rfl, _, SqL.mk hX2⟩, _, rfl, _, rfl, X, xs, rfl, .inl (SqL.mk hX2), p, _, _, rfl, wX, by show (1 : Int) ≤ ((xs.length : Nat) : Int); omega, by show ((xs.length : Nat) : Int) < 1073741824; omega, fun H3 d w3 d0 d1 => ?_⟩
        have wDH : Wd p D H3 := ⟨((same_new X0).trans (same_new (o := .lst us) (by rw [upd_ne XM]; exact M0))).trans w3.s, w1.n, w3.pot⟩
        have hX3 : H3 X = some (.lst xs) := w3.s _ _ (by rw [upd_ne XM.symm]; exact upd_same)
        have hM3 : H3 M = some (.lst us) := w3.s _ _ upd_same
        obtain ⟨y, hy⟩ : ∃ y, xs[d.toNat]? = some y := ⟨xs[d.toNat]'(by omega), List.getElem?_eq_getElem _⟩
        have ai : atI xs d = some y := by
          have := atI_nat (j := d.toNat) hy
          rw [show ((d.toNat : Nat) : Int) = d by omega] at this
          exact this
        obtain ⟨k, hk, hky, kl, _, _⟩ := atI_get ai
        obtain ⟨t1, ht1⟩ : ∃ t1, bs[k]? = some t1 := ⟨bs[k]'(by omega), List.getElem?_eq_getElem _⟩
        have dy : Dp K D y (dTup t1) := dp_at (i := k) dx hky (by rw [List.getElem?_map, ht1]; rfl)
        refine ⟨X, xs, d, k, y, rfl, rfl, hX3, by omega, by omega, hk, hky, ?_⟩
        have hM4 : upd H3 X (.lst (xs.eraseIdx k)) M = some (.lst us) := by
          rw [upd_ne XM]
          exact hM3
        refine ⟨M, us, y, rfl, rfl, hM4, Nat.lt_of_le_of_lt (show us.length ≤ 24 by omega) (by decide), ?_⟩
        refine ⟨⟨xs.eraseIdx k, us ++ [y], as ++ [t1], bs.eraseIdx k, rfl, (wDH.over X0 Xp).over M0 Mp, by rw [upd_ne XM.symm]; exact upd_same, upd_same, ?_, ?_, (perm_move as bs ht1).trans pm⟩, ?_⟩
        · rw [map_er]
          exact DpAll.erase k dx
        · rw [List.map_append]
          exact DpAll.append du (.cons dy .nil)
        · have e1 : lenAt [some (V.ref p), some (V.ref L), some (V.ref X), some (V.ref M)] (upd (upd H3 X (.lst (xs.eraseIdx k))) M (.lst (us ++ [y]))) = (xs.eraseIdx k).length := by
            exact lenAt_eq (by rw [upd_ne XM.symm]; exact upd_same)
          have e2 : lenAt [some (V.ref p), some (V.ref L), some (V.ref X), some (V.ref M)] H1 = xs.length := by
            exact lenAt_eq hX1
          rw [e1, e2, List.length_eraseIdx, if_pos kl]
          omega
    · rintro σ H1 Q1 Q2 h12 ⟨v1, e1, z1, h⟩
      refine ⟨v1, e1, z1, fun t ht => ?_⟩
      obtain ⟨d1, d2, i1, i2, i3, i4, v3, e3, q3⟩ := h t ht
      exact ⟨d1, d2, i1, i2, i3, i4, v3, e3, h12 _ _ q3⟩
end
end G0

namespace G0
open PySem PySem.Spec PyProof.Rows L2
theorem KB.n {K : PySem.W.Frag} {fd : FuncData} {ps ks : List Str} {n : Nat} (h : KB fd ps ks n) : KBn K fd ps n ks (fun us ws => us ++ ws) (fun vs zs => vs ++ zs) :=
  ⟨fun s us ws X l1 l2 => .of_eq (h.to us ws l1 l2), fun r1 r2 => r1.append r2⟩
section
variable {X : Cx} {k n : Nat} {f C : Addr} {fd : FuncData} {ps ks : List Str} {sp : Sp} {E : XK} {x m : Str} {p pos apos : Pos} {e o : Expr} {kws : List Keyword} {ta : TE} {tk : TA} {g : List Value → List Value → List Value} {gV : List V → List V → List V}
theorem run_kbn {pn : List (Addr × Obj)} {σ : L2.St} {H : Hp} {s : Shared} {Q : VK} {us ws : List Value} {vs zs : List V} (F : FnOk X.prog X.w X.K X.mg X.base CX0 k f fd ps sp) (room : Room k X.A) (bn : KBn X.K fd ps n ks g gV)
    (J : Inv X pn σ H s) (rv : Vals vs us) (rz : Vals zs ws) (l1 : vs.length = n) (l2 : zs.length = ks.length) (want : sp (gV vs zs) H Q E) : wpAny (model X.prog X.w) X.A (call (.ref f) us (ks.zip ws)) (EP X pn σ Q) X.xe s := by
  refine wpAny_call (codeAny_mono (F.run X.A X.stack s H ⟨us, ks.zip ws⟩ (g us ws) (gV vs zs) Q E room J.env0 (bn.to s us ws J.kIn (rv.length.symm.trans l1) (rz.length.symm.trans l2)) (bn.rel rv rz) want) fun res s2 got => ?_)
  match res, got with
  | .error _, got => exact got.elim
  | .ok (.ret _), got => exact J.after got
  | .ok .next, got => exact got.elim
  | .ok .brk, got => exact got.elim
  | .ok .cont, got => exact got.elim
def tCallS (sp : Sp) (n : Nat) (gV : List V → List V → List V) (E : XK) (tk : TA) : TE := fun σ H Q => tk σ H fun zs H2 => zs.length = n ∧ sp (gV [] zs) H2 Q E
/-- f(k = v, ..), in whatever sequence -/
theorem pe_callS (F : FnOk X.prog X.w X.K X.mg X.base CX0 k f fd ps sp) (room : Room k X.A) (gl : Gl X x) (at_ : X.mg x = some (.ref f)) (kp : PySem.W.keepIn X.K (.ref f) = true) (bn : KBn X.K fd ps 0 ks g gV) (pk : PK X kws tk)
    (hall : (backToKw pos (keywordEach kws X.env)).all (·.1.isSome) = true := by rfl) (hks : (backToKw pos (keywordEach kws X.env)).filterMap (·.1) = ks := by rfl) (hdb : (x == ("__debug__" : Str)) = false := by decide)
    (hpl : ((backTo pos (starEach [] X.env)).any (·.1) || (backToKw pos (keywordEach kws X.env)).any (·.1.isNone)) = false := by rfl) : PE X (.Call (.Name x p) [] kws pos) (tCallS sp ks.length gV E tk) := by
  constructor
  intro pn s σ H Q J want
  apply wpAny_Call_Name_kw
  refine ld_glob J gl at_ ?_ hdb
  refine PySem.W.callWith_KW0 (h₀ := X.base) J.ok.mod.kin kp hall ?_ hpl
  refine thn (pk.run pos pn s σ H _ J want) ?_
  rintro ws s2 ⟨zs, H2, J2, rz, l2, q2⟩
  rw [hks]
  exact ⟨J2.kIn, run_kbn (us := []) (vs := []) F room bn J2 .nil rz rfl l2 q2⟩
end
section
variable {K : PySem.W.Frag} {a : Addr} {xs : List V} {g : TG} {tt : TT} {te : TE} {vs : List Nat} {σ : L2.St} {H1 : Hp} {D : Addr} {Qd : Hp → Prop}
/-- a comprehension that adds F i for the i-th item -/
theorem lcI (F : Nat → V) (hl : SqL K H1 a xs) (hn : xs.length < sizeLine) (hD : H1 D = none) (t : ∀ i x, xs[i]? = some x → ∀ H, Same H1 H → ∀ (G : V → Hp → Prop) (N : Hp → Prop), (∀ H', Same H H' → G (F i) H') → g x (wipe σ vs) H fun σ2 H2 => wipe σ2 vs = wipe σ vs ∧ tt σ2 H2 fun b H3 => if b = true then te σ2 H3 G else N H3)
    (hd : ∀ H, Same H1 H → H D = some (.lst ((List.range' 0 xs.length).map F)) → Qd H) :
    ∃ W : Nat → Nat → Hp → Prop, (∃ m, W 0 m (upd H1 D (.lst []))) ∧ ∀ i m H, W i m H →
      ((Itl K a).stop i H ∧ Qd H) ∨ ((Itl K a).go i H ∧ ∃ Nx : Hp → Prop, (∀ H', Nx H' → ∃ m', m' < m ∧ W (i + 1) m' H') ∧ ∀ x H', (Itl K a).yld i H x H' → g x (wipe σ vs) H' fun σ2 H2 => wipe σ2 vs = wipe σ vs ∧ tt σ2 H2 fun b H3 =>
        if b = true then te σ2 H3 fun y H4 => ∃ acc, H4 D = some (.lst acc) ∧ acc.length < sizeLine ∧ Nx (upd H4 D (.lst (acc ++ [y]))) else Nx H3) :=
  lc_list (xs := xs) (fun i H => Same H1 H ∧ H D = some (.lst ((List.range' 0 i).map F))) ⟨same_new hD, upd_same⟩ (fun _ _ _ h => h.1.seq hl)
    (fun i x H hx h => t i x hx H h.1 _ _ fun H' s => by
      have hi := (List.getElem?_eq_some_iff.mp hx).1
      refine ⟨_, s _ _ h.2, ?_, fun b o eb => ?_, ?_⟩
      · rw [List.length_map, List.length_range']
        omega
      · rw [upd_ne (ne_of_none eb hD)]
        exact (h.1.trans s) _ _ eb
      · rw [upd_same, List.range'_concat, List.map_append]
        simp) (fun H h => hd H h.1 h.2)
end
/-- what the text defines, in use -/
structure Lib (P : Program) (w : World) (K : PySem.W.Frag) (mg : Str → Option Value) (base : Heap) (C : Addr) where
  B : Blt mg
  S : SpTxt K mg C
  fI : Addr
  dI : FuncData
  M : Mk K C fI
  GI : FnOk P w K mg base CX0 5 fI dI ["self", "points"] (sp_init K C)
  bI : Binds K dI ["self", "points"] []
  kI : KB dI ["self", "points"] ["points"] 1
  pS : Addr
  fS : Addr
  dS : FuncData
  hp : PropOf K C "size" pS fS
  GS : FnOk P w K mg base CX0 1 fS dS ["self"] (sp_size K C)
  bS : Binds K dS ["self"] []
  fE : Addr
  dE : FuncData
  eo : EqOwn K C fE
  no : NeOwn K C fE
  GE : FnOk P w K mg base CX0 1 fE dE ["self", "other"] (sp_eq K C)
  bE : Binds K dE ["self", "other"] []
  fR : Addr
  dR : FuncData
  ro : ReprOwn K C fR
  GR : FnG P w K mg base 1 fR dR ["self"] (sp_repr K C)
  bR : Binds K dR ["self"] []
  fP : Addr
  dP : FuncData
  mP : Meth K C "points" fP
  GP : FnOk P w K mg base CX0 1 fP dP ["self"] (sp_points K C)
  bP : Binds K dP ["self"] []
  fL : Addr
  dL : FuncData
  mL : Meth K C "place" fL
  GL : FnOk P w K mg base CX0 5 fL dL ["self", "point"] (sp_place K C)
  bL : Binds K dL ["self", "point"] []
  fW : Addr
  dW : FuncData
  mW : Meth K C "without" fW
  GW : FnOk P w K mg base CX0 7 fW dW ["self", "position"] (sp_without K C)
  bW : Binds K dW ["self", "position"] []
  kW : KB dW ["self", "position"] ["position"] 1
  fA : Addr
  dA : FuncData
  mA : Meth K C "with_point" fA
  GA : FnOk P w K mg base CX0 7 fA dA ["self", "point"] (sp_with K C)
  bA : Binds K dA ["self", "point"] []
  kA : KB dA ["self", "point"] ["point"] 1
  nL : PySem.W.notFirst K C (.type "list") = true
  nT : PySem.W.notFirst K C (.type "tuple") = true
  fSm : Addr
  dSm : FuncData
  Sm : Df K mg "same_points" s_same_points ["spots", "other"] fSm dSm
  GSm : FnOk P w K mg base CX0 2 fSm dSm ["spots", "other"] (sp_same K C)
  kSm : KBn K dSm ["spots", "other"] 0 ["other", "spots"] (fun us ws => us ++ ws.reverse) (fun vs zs => vs ++ zs.reverse)
  fDraw : Addr
  dDraw : FuncData
  Draw : Df K mg "_law_draw" s_draw ["_law_pot_here", "_law_many"] fDraw dDraw
  GDraw : FnOk P w K mg base CX0 1 fDraw dDraw ["_law_pot_here", "_law_many"] sp_draw
  fPoint : Addr
  dPoint : FuncData
  Point : Df K mg "_law_point" s_point ["_law_pot_here", "_law_most"] fPoint dPoint
  GPoint : FnOk P w K mg base CX0 2 fPoint dPoint ["_law_pot_here", "_law_most"] sp_point
  fGiven : Addr
  dGiven : FuncData
  Given : Df K mg "_law_given" s_given ["_law_pot_here", "_law_point_here"] fGiven dGiven
  GGiven : FnOk P w K mg base CX0 2 fGiven dGiven ["_law_pot_here", "_law_point_here"] (sp_given K)
  fTold : Addr
  dTold : FuncData
  Told : Df K mg "_law_told" s_told ["_law_point_here"] fTold dTold
  GTold : FnOk P w K mg base CX0 2 fTold dTold ["_law_point_here"] (sp_told K)
  fSpots : Addr
  dSpots : FuncData
  Spots : Df K mg "_law_spots" s_law_spots ["_law_pot_here", "_law_many", "_law_most"] fSpots dSpots
  GSpots : FnOk P w K mg base CX0 3 fSpots dSpots ["_law_pot_here", "_law_many", "_law_most"] (sp_law_spots K)
  fHanded : Addr
  dHanded : FuncData
  Handed : Df K mg "_law_handed" s_law_handed ["_law_pot_here", "_law_found"] fHanded dHanded
  GHanded : FnOk P w K mg base CX0 3 fHanded dHanded ["_law_pot_here", "_law_found"] (sp_handed K)
  fMixed : Addr
  dMixed : FuncData
  Mixed : Df K mg "_law_mixed" s_law_mixed ["_law_pot_here", "_law_found"] fMixed dMixed
  GMixed : FnOk P w K mg base CX0 2 fMixed dMixed ["_law_pot_here", "_law_found"] (sp_mixed K)
section
variable {P : Program} {w : World} {K : PySem.W.Frag} {mg : Str → Option Value} {base : Heap}
theorem shaped_lst (ns : List Int) : SeqAt.shaped (dLst ns) = true := by
  show (PyData.canLay0 (dLst ns) && decide (PyData.depth (dLst ns) ≤ 64)) = true
  simp only [PyData.canLay0, lay_ints, PyData.depth, dep_ints]
  decide
theorem ne_self (x : V) : (!decide (x = x)) = false := by simp
def sp_shows (K : PySem.W.Frag) (C : Addr) : Sp := fun vs H Q _ => ∃ (x : Addr) (v : V) (ts : List (List Int)), vs = [.ref x, v] ∧ SpotsAt K C H x ts ∧ TList K H v ts ∧ Good ts ∧ ∀ H', Same H H' → Q (.bl true) H'
theorem sc_shows : FnScope ["_law_spots_here", "_law_found", "_law_point_here"] ["_law_spots_here", "_law_found"] (defScope s_law_shows) := ⟨rfl, rfl, rfl, by decide +kernel, rfl, by decide +kernel, by decide +kernel⟩
theorem ok_shows {f C : Addr} {fd : FuncData} (F : Fun K "_law_shows" "_law_shows" s_law_shows f fd) (T : Lib P w K mg base C) : FnG P w K mg base 6 f fd ["_law_spots_here", "_law_found"] (sp_shows K C) := by
  refine F.okG sc_shows (fun vs H Q E h => ?_) (fun cdv A outer s H vs Q E gd hr h => ?_)
  · obtain ⟨x, v, ts, rfl, _⟩ := h
    rfl
  · obtain ⟨x, v, ts, rfl, sp, ⟨L, vs, rfl, hL, hd⟩, g, q⟩ := h
    have B := T.B
    have r1 : Room 1 _ := hr.mono (by decide)
    have r2 : Room 2 _ := hr.mono (by decide)
    have hu := hr.units
    refine ⟨_, pss_cons (ps_if (PW.pt (pw_or (pt_cmpR op_ne (pe_callB (call_repr gd hu) (by rfl) B.repr boot_repr (pa_cons (pe_lst (pa_cons (pe_prop (E := E0) (pv 0) T.S.cl T.hp T.GS r2 T.bS .nil pass0 rfl) (pa_cons (pe_meth0 (pv 0) T.S.cl T.mP T.GP r1 T.bP .nil pass0) pa_nil))) pa_nil)) (pe_callB (call_repr gd hu) (by rfl) B.repr boot_repr (pa_cons (pe_lst (pa_cons (pe_callB call_len_seq (by rfl) B.len PySem.boot_len (pa_cons (pv 1) pa_nil)) (pa_cons (pv 1) pa_nil))) pa_nil)) (nomark _))
        (pw_or1 (pt_cmpR op_ne (pe_callB (call_reprOwn T.GR T.ro gd r2 T.bR) (by rfl) B.repr boot_repr (pa_cons (pv 0) pa_nil)) (pe_op op_add_str (pe_op op_add_str pe_str (pe_callB (call_repr gd hu) (by rfl) B.repr boot_repr (pa_cons (pv 1) pa_nil))) pe_str) (nomark _))))) (pss_one ps_never) pss_nil)
      (pss_one (ps_ret (pe_cmpR (op_eqD hu) (pe_lc (own := [("_law_point_here", 2)]) (g := gName 2) (tt := tYes) rfl sc_shows.nd (pi_list (pv 1)) (blkOk_by (N := ["_law_spots_here", "_law_found", "_law_point_here"]) (sc := defScope s_law_shows) (by decide +kernel)) (fun _ _ _ _ _ => pg_name (i := 2) sc_shows.nd rfl (Or.inl rfl))
          (fun _ _ _ _ _ => pts_nil) (fun _ _ _ _ _ => pe_meth (E := E0) (pv 0) T.S.cl T.mL T.GL hr T.bL .nil pass0 (pa_cons (pv 2) pa_nil))) (pe_callTy (cr_listRng rfl) (by rfl) B.list boot_tlist (pa_cons (pe_callTy cr_range1 (by rfl) B.range boot_trange (pa_cons (pe_callB call_len_seq (by rfl) B.len PySem.boot_len (pa_cons (pv 1) pa_nil)) pa_nil)) pa_nil)) (nomark _)))), ?_⟩
    obtain ⟨dx, l, us, x1, x2, x3⟩ := id sp
    have lv : vs.length = ts.length := by rw [DpAll.len hd, List.length_map]
    have h24 := g.most
    have fine2 : Fine (.list [.int (ts.length : Nat), .list (ts.map dTup)]) := by
      have f := g.all
      have e2 := FineAll.cons (d := .list (ts.map dTup)) (dep := 2) (s1 := 15470 * 24 + 3) (by simp only [PyData.showable]; exact f.sh) (by simp only [PyData.hasDict]; exact f.nd) (by have := f.dep; simp only [PyData.depth]; omega) (by have := f.sz; simp only [szD]; omega) (.nil (sz := 0))
      have e1 := FineAll.cons (d := .int (ts.length : Nat)) (dep := 2) (s1 := 1930) (by simp only [PyData.showable, decide_eq_true_eq]; exact small_log (show ts.length < 2 ^ 1919 from Nat.lt_of_le_of_lt h24 (by decide +kernel))) (by simp only [PyData.hasDict]) (by simp only [PyData.depth]; omega) (by simp only [szD]; omega) e2
      exact .lst e1 (by decide) (by omega)
    -- repr([size, points]) == repr([len(found), found])
    refine ⟨_, rfl, x, dx, _, rfl, x1, x, ts, rfl, sp, ?_⟩
    refine ⟨_, rfl, x, dx, _, rfl, x1, rfl, x, ts, rfl, sp, fun H1 p1 s1 n1 t1 => ?_⟩
    obtain ⟨v1, h1, d1⟩ := t1
    refine ⟨by show 2 ≤ sizeLine; decide, fun q1 m1 => ?_⟩
    have s2 := same_new (o := .lst [.int (ts.length : Nat), .ref p1]) m1
    refine ⟨q1, .list [.int (ts.length : Nat), .list (ts.map dTup)], rfl, .lst (SqL.mk upd_same) (.cons (.int _) (.cons (.lst (SqL.mk (s2 _ _ h1)) (DpAll.same s2 d1)) .nil)), fine2, ?_⟩
    have sA := s1.trans s2
    revert sA
    generalize upd H1 q1 (.lst [.int (ts.length : Nat), .ref p1]) = H2
    intro sA
    have hL2 := sA _ _ hL
    have hd2 := DpAll.same sA hd
    refine ⟨_, rfl, L, vs, rfl, .inl (SqL.mk hL2), _, rfl, by show 2 ≤ sizeLine; decide, fun q2 m2 => ?_⟩
    rw [lv]
    have s3 := same_new (o := .lst [.int (ts.length : Nat), .ref L]) m2
    refine ⟨q2, .list [.int (ts.length : Nat), .list (ts.map dTup)], rfl, .lst (SqL.mk upd_same) (.cons (.int _) (.cons (.lst (SqL.mk (s3 _ _ hL2)) (DpAll.same s3 hd2)) .nil)), fine2, ?_⟩
    have sB := sA.trans s3
    revert sB
    generalize upd H2 q2 (.lst [.int (ts.length : Nat), .ref L]) = H3
    intro sB
    have hL3 := sB _ _ hL
    have hd3 := DpAll.same sB hd
    have x31 := sB _ _ x1
    refine ⟨rfl, _, rfl, ?_⟩
    rw [ne_self]
    refine iteF ?_
    -- repr(spots) == "Spots(" + repr(found) + ")"
    refine ⟨_, rfl, x, dx, _, rfl, x31, x, ts, rfl, sp.same sB, g, _, rfl, ?_⟩
    have z := shown_le _ g.fine.sh g.fine.nd
    have z2 := g.fine.sz
    have l1 : (((("Spots(" : String) : Str))).length = 6 := rfl
    have l2 : ((((")" : String) : Str))).length = 1 := rfl
    refine ⟨_, rfl, L, _, rfl, .lst (SqL.mk hL3) hd3, g.fine, _, _, rfl, rfl, by rw [l1, sizeLine_eq]; omega, _, _, rfl, rfl, by rw [strLen_append, l1, l2, sizeLine_eq]; omega, rfl, _, rfl, ?_⟩
    rw [show (!decide (V.str (shownS ts) = V.str (((("Spots(" : String) : Str) ++ (PyData.list (ts.map dTup)).shown ++ ((")" : String) : Str))))) = false from ne_self _]
    refine iteF ?_
    -- the places
    refine ⟨_, rfl, L, rfl, ⟨_, SqL.mk hL3⟩, fun M hM => ?_⟩
    refine lcI (fun i => V.int (i : Nat)) (SqL.mk hL3) (by rw [lv, sizeLine_eq]; omega) hM (fun i v hv H4 s4 G N gk => ?_) fun H4 s4 h4 => ?_
    · refine ⟨rfl, yes_ite ?_⟩
      have s5 := sB.trans s4
      have iv := (List.getElem?_eq_some_iff.mp hv).1
      obtain ⟨t, ht⟩ : ∃ t, ts[i]? = some t := ⟨ts[i]'(by omega), List.getElem?_eq_getElem _⟩
      have mt := List.mem_of_getElem? ht
      refine ⟨_, rfl, x, dx, _, rfl, s5 _ _ x1, rfl, _, rfl, x, ts, v, t, some i, rfl, sp.same s5, ?_, ?_, fun H5 s6 => gk _ s6⟩
      · exact (pts_of hd g i v t hv ht).same s5
      · rw [g.told t mt]
        refine ⟨ht, fun m hm e => ?_⟩
        have := (List.getElem?_inj (by omega) g.nd).mp (e.trans ht.symm)
        omega
    · have s5 := sB.trans s4
      rw [lv] at h4
      refine ⟨_, rfl, L, vs, rfl, .inl (SqL.mk (s5 _ _ hL)), _, rfl, fun r hr2 => ?_⟩
      rw [lv]
      have s6 := same_new (o := .rng 0 (ts.length : Nat)) hr2
      refine ⟨r, ts.length, rfl, upd_same, by omega, fun l3 hl3 => ?_⟩
      have s7 := same_new (o := .lst ((List.range' 0 ts.length).map fun i => V.int (i : Nat))) hl3
      have ev : (List.range' 0 ts.length).map (fun i => V.int (i : Nat)) = ((List.range' 0 ts.length).map fun i => ((i : Nat) : Int)).map V.int := by
        rw [List.map_map]
        rfl
      rw [ev] at h4 s7 ⊢
      have sh := shaped_lst ((List.range' 0 ts.length).map fun i => ((i : Nat) : Int))
      refine ⟨_, _, dp_lst (SqL.mk ((s6.trans s7) _ _ h4)), dp_lst (SqL.mk upd_same), sh, sh, ?_⟩
      have ee : PyData.eqv (dLst ((List.range' 0 ts.length).map fun i => ((i : Nat) : Int))) (dLst ((List.range' 0 ts.length).map fun i => ((i : Nat) : Int))) = true := by
        unfold dLst
        simp only [PyData.eqv, eqv_ints, decide_eq_true_eq]
      rw [ee]
      exact q _ (s5.trans (s6.trans s7))
end
end G0

namespace G0
open PySem PySem.Spec PyProof.Rows L2
theorem seq_join {ta tb : TS} {D : Ends} {σ : L2.St} {H : Hp} (S : L2.St → Hp → Prop) (h1 : ∀ N : L2.St → Hp → Prop, (∀ σ H, S σ H → N σ H) → ta { D with nx := N } σ H) (h2 : ∀ σ H, S σ H → tb D σ H) : tSeq ta tb D σ H := h1 _ h2
section
variable {P : Program} {w : World} {K : PySem.W.Frag} {mg : Str → Option Value} {base : Heap}
/-- all that stands, but the pot -/
theorem Wd.all {p : Addr} {D H : Hp} (w : Wd p D H) : Wd p (G0.del H p) H ∧ Same D (G0.del H p) :=
  ⟨⟨fun b o e => by
      by_cases eb : b = p
      · rw [eb, del_at] at e
        cases e
      · rw [del_ne eb] at e
        exact e, del_at, w.pot⟩, same_del w.n w.s⟩
theorem Wd.ne' {p l : Addr} {D H : Hp} {ns : List Int} (w : Wd p D H) (h : H l = some (.lst (ns.map V.int))) (d : 3 ≤ ns.length) : l ≠ p := fun e => by
  obtain ⟨a, b, q1, q2, q3, q4⟩ := w.pot
  rw [e, q4] at h
  have := congrArg List.length (HO.lst.inj (Option.some.inj h))
  rw [List.length_map] at this
  simp at this
  omega
theorem dp_del {H : Hp} {p : Addr} {v : V} {t : List Int} {zs : List V} (hp : H p = some (.lst zs)) (h : Dp K H v (dTup t)) : Dp K (del H p) v (dTup t) := by
  cases h with
  | tup hs ha =>
    obtain rfl := dp_int ha
    refine dp_tup ?_
    rcases hs with (h | ⟨o, h⟩) | h
    · refine .inl (.inl ?_)
      rw [del_ne (fun e => by rw [e, hp] at h; cases h)]
      exact h
    · refine .inl (.inr ⟨o, ?_⟩)
      rw [del_ne (fun e => by rw [e, hp] at h; cases h)]
      exact h
    · exact .inr h
theorem dpall_del {H : Hp} {p : Addr} {zs : List V} (hp : H p = some (.lst zs)) : ∀ {vs : List V} {ts : List (List Int)}, DpAll K H vs (ts.map dTup) → DpAll K (del H p) vs (ts.map dTup)
  | _, [], h => by
    cases h
    exact .nil
  | _, t :: ts, h => by
    cases h with
    | cons h1 h2 => exact .cons (dp_del hp h1) (dpall_del hp h2)
theorem spots_del {C : Addr} {D H : Hp} {p x : Addr} {ts : List (List Int)} (w : Wd p D H) (g : 1 ≤ ts.length) (h : SpotsAt K C H x ts) : SpotsAt K C (del H p) x ts := by
  obtain ⟨dx, l, vs, h1, h2, h3⟩ := h
  obtain ⟨a, b, q1, q2, q3, q4⟩ := w.pot
  refine ⟨dx, l, vs, ?_, ?_, dpall_del q4 h3⟩
  · rw [del_ne (fun e => by rw [e, q4] at h1; cases h1)]
    exact h1
  · rw [del_ne ?_]
    · exact h2
    · intro e
      rw [e, q4] at h2
      cases h2
      match ts, g, h3 with
      | t :: ts, _, h3 =>
        cases h3 with
        | cons h4 _ => cases h4
theorem not_erase {α : Type} : ∀ {ts : List α} {i : Nat} {t : α}, ts.Nodup → ts[i]? = some t → t ∉ ts.take i ++ ts.drop (i + 1)
  | [], _, _, _, h => by simp at h
  | u :: us, 0, t, n, h => by
    cases h
    simpa using (List.nodup_cons.mp n).1
  | u :: us, i + 1, t, n, h => by
    have hu := (List.nodup_cons.mp n).1
    have ih := not_erase (List.nodup_cons.mp n).2 (show us[i]? = some t from h)
    show t ∉ u :: (us.take i ++ us.drop (i + 1))
    intro hm
    rcases List.mem_cons.mp hm with e | e
    · exact hu (e ▸ List.mem_of_getElem? (show us[i]? = some t from h))
    · exact ih e
theorem erase_len {α : Type} {ts : List α} {i : Nat} (h : i < ts.length) : (ts.take i ++ ts.drop (i + 1)).length = ts.length - 1 := by
  rw [List.length_append, List.length_take, List.length_drop]
  omega
theorem erase_perm {α : Type} {ts : List α} {i : Nat} {t : α} (h : ts[i]? = some t) : (ts.take i ++ ts.drop (i + 1) ++ [t]).Perm ts := by
  have p := perm_move [] ts h
  rw [List.nil_append, List.nil_append, List.eraseIdx_eq_take_drop_succ] at p
  exact List.perm_append_comm.trans p
def sp_parts (K : PySem.W.Frag) (C : Addr) : Sp := fun vs H Q _ => ∃ (p x y : Addr) (v : V) (D : Hp) (ts us : List (List Int)), vs = [.ref p, .ref x, v, .ref y] ∧ Wd p D H ∧ SpotsAt K C D x ts ∧ TList K D v ts ∧ Good ts ∧ ts.length ≤ 12 ∧ SpotsAt K C D y us ∧ Good us ∧ us.Perm ts ∧ ∀ H', Wd p D H' → Q (.bl true) H'
theorem sc_parts : FnScope ["_law_pot_here", "_law_spots_here", "_law_found", "_law_other", "_law_position", "_law_point_here", "_law_less", "_law_left", "_law_again", "_law_told_here", "_law_more", "_law_number"] ["_law_pot_here", "_law_spots_here", "_law_found", "_law_other"] (defScope s_parts) := ⟨rfl, rfl, rfl, by decide +kernel, rfl, by decide +kernel, by decide +kernel⟩
theorem ok_parts {f C fSh : Addr} {fd dSh : FuncData} (F : Fun K "_law_parts_right" "_law_parts_right" s_parts f fd) (T : Lib P w K mg base C) (DS : Df K mg "_law_shows" s_law_shows ["_law_spots_here", "_law_found"] fSh dSh) (GS : FnG P w K mg base 6 fSh dSh ["_law_spots_here", "_law_found"] (sp_shows K C)) :
    FnG P w K mg base 8 f fd ["_law_pot_here", "_law_spots_here", "_law_found", "_law_other"] (sp_parts K C) := by
  refine F.okG sc_parts (fun vs H Q E h => ?_) (fun cdv A outer s H vs Q E gd hr h => ?_)
  · obtain ⟨p, x, y, v, D, ts, us, rfl, _⟩ := h
    rfl
  · obtain ⟨p, x, y, v, D, ts, us, rfl, wd, spx, ⟨L, vs, rfl, hL, hd⟩, g, l12, spy, gu, pm, q⟩ := h
    have B := T.B
    have r1 : Room 1 _ := hr.mono (by decide)
    have r2 : Room 2 _ := hr.mono (by decide)
    have r5 : Room 5 _ := hr.mono (by decide)
    have r6 : Room 6 _ := hr.mono (by decide)
    have r7 : Room 7 _ := hr.mono (by decide)
    have hu := hr.units
    have hu65 : (A.deeper (envOfC "_law_parts_right" (defScope s_parts) s.heap.objs.size f cdv)).units + 65 < cLine := by
      have := hr.un
      omega
    refine ⟨_, pss_cons (ps_par (i := 4) (j := 5) rfl sc_parts.nd rfl rfl (by decide) rfl rfl (pa_cons (pdf T.Draw T.GDraw r1 (pa_cons (pv 0) (pa_cons (pe_callB call_len_seq (by rfl) B.len PySem.boot_len (pa_cons (pv 2) pa_nil)) pa_nil))) (pa_cons (pdf T.Point T.GPoint r2 (pa_cons (pv 0) (pa_cons pe_int pa_nil))) pa_nil)) (by rfl))
      (pss_cons (ps_if (pt_cmpR op_gt (pe_callB call_len_seq (by rfl) B.len PySem.boot_len (pa_cons (pv 2) pa_nil)) pe_int (nomark _))
        (pss_cons (ps_set (i := 6) sc_parts.nd rfl (Or.inl rfl) (pe_meth (E := E0) (pv 1) T.S.cl T.mW T.GW r7 T.bW .nil pass0 (pa_cons (pv 4) pa_nil)))
        (pss_cons (ps_set (i := 7) sc_parts.nd rfl (Or.inl rfl) (pe_op op_cat (pe_slice sl_list (pv 2) po_none (po_some (pv 4))) (pe_slice sl_list (pv 2) (po_some (pe_op op_add (pv 4) pe_int)) po_none)))
        (pss_cons (ps_if (PW.pt (pw_or (pt_not (pt_val (pe_callG (E := E0) GS gd r6 (by rfl) DS.g DS.F.kp DS.b .nil (pa_cons (pv 6) (pa_cons (pv 7) pa_nil))))) (pw_or (pt_cmpR op_notN (pe_meth (E := E0) (pv 6) T.S.cl T.mL T.GL r5 T.bL .nil pass0 (pa_cons (pe_ix ix_list (pv 2) (pv 4) (fun _ _ => rfl)) pa_nil)) pe_non (nomark _)) (pw_or1 (pt_cmpR op_notBl (pdf T.Sm T.GSm r2 (pa_cons (pv 6) (pa_cons (pv 1) pa_nil))) pe_bl (nomark _)))))) (pss_one ps_never) pss_nil)
        (pss_cons (ps_set (i := 8) sc_parts.nd rfl (Or.inl rfl) (pe_meth (E := E0) (pv 6) T.S.cl T.mA T.GA r7 T.bA .nil pass0 (pa_cons (pe_ix ix_list (pv 2) (pv 4) (fun _ _ => rfl)) pa_nil)))
        (pss_cons (ps_if (PW.pt (pw_or (pt_not (pt_val (pe_callG (E := E0) GS gd r6 (by rfl) DS.g DS.F.kp DS.b .nil (pa_cons (pv 8) (pa_cons (pe_op op_cat (pv 7) (pe_lst (pa_cons (pe_ix ix_list (pv 2) (pv 4) (fun _ _ => rfl)) pa_nil))) pa_nil))))) (pw_or1 (pt_cmpR op_notBl (pdf T.Sm T.GSm r2 (pa_cons (pv 8) (pa_cons (pv 3) pa_nil))) pe_bl (nomark _))))) (pss_one ps_never) pss_nil)
        (pss_one (ps_if (PW.pt (pw_or (pt_cmpR (op_neOwn (E := E0) T.GE T.no r2 T.bE) (pe_methN (E := E0) (pv 1) T.S.cl T.mW T.GW r7 T.kW (pk_cons (pv 4) pk_nil)) (pv 6) (nomark _)) (pw_or1 (pt_cmpR (op_neOwn (E := E0) T.GE T.no r2 T.bE) (pe_methN (E := E0) (pv 6) T.S.cl T.mA T.GA r7 T.kA (pk_cons (pe_ix ix_list (pv 2) (pv 4) (fun _ _ => rfl)) pk_nil)) (pv 8) (nomark _))))) (pss_one ps_never) pss_nil))))))) pss_nil)
      (pss_cons (ps_set (i := 9) sc_parts.nd rfl (Or.inl rfl) (pdf T.Told T.GTold r2 (pa_cons (pv 5) pa_nil)))
      (pss_cons (ps_if (pt_cmpR (op_notInD hu65) (pv 9) (pv 2) (by rfl))
        (pss_cons (ps_set (i := 10) sc_parts.nd rfl (Or.inl rfl) (pe_meth (E := E0) (pv 1) T.S.cl T.mA T.GA r7 T.bA .nil pass0 (pa_cons (pdf T.Given T.GGiven r2 (pa_cons (pv 0) (pa_cons (pe_lc (own := [("_law_number", 11)]) (g := gName 11) (tt := tYes) rfl sc_parts.nd (pi_list (pv 5)) (blkOk_by (N := ["_law_pot_here", "_law_spots_here", "_law_found", "_law_other", "_law_position", "_law_point_here", "_law_less", "_law_left", "_law_again", "_law_told_here", "_law_more", "_law_number"]) (sc := defScope s_parts) (by decide +kernel)) (fun _ _ _ _ _ => pg_name (i := 11) sc_parts.nd rfl (Or.inl rfl))
            (fun _ _ _ _ _ => pts_nil) (fun _ _ _ _ _ => pe_op op_mul pe_int (pv 11))) pa_nil))) pa_nil)))
        (pss_cons (ps_if (PW.pt (pw_or (pt_not (pt_val (pe_callG (E := E0) GS gd r6 (by rfl) DS.g DS.F.kp DS.b .nil (pa_cons (pv 10) (pa_cons (pe_op op_cat (pv 2) (pe_lst (pa_cons (pv 9) pa_nil))) pa_nil))))) (pw_or (pt_cmpR op_notN (pe_meth (E := E0) (pv 1) T.S.cl T.mL T.GL r5 T.bL .nil pass0 (pa_cons (pv 5) pa_nil)) pe_non (nomark _)) (pw_or1 (pt_cmpR op_notBl (pdf T.Sm T.GSm r2 (pa_cons (pv 10) (pa_cons (pv 1) pa_nil))) pe_bl (nomark _)))))) (pss_one ps_never) pss_nil)
        (pss_one (ps_if (PW.pt (pw_and (pt_cmpR op_gt (pe_callB call_len_seq (by rfl) B.len PySem.boot_len (pa_cons (pv 2) pa_nil)) pe_int (nomark _)) (pw_and1 (pt_cmpR op_notBl (pdf T.Sm T.GSm r2 (pa_cons (pe_meth (E := E0) (pv 10) T.S.cl T.mW T.GW r7 T.bW .nil pass0 (pa_cons (pv 4) pa_nil)) (pa_cons (pv 1) pa_nil))) pe_bl (nomark _))))) (pss_one ps_never) pss_nil)))) pss_nil)
      (pss_one (ps_ret (pe_callG (E := E0) GS gd r6 (by rfl) DS.g DS.F.kp DS.b .nil (pa_cons (pv 1) (pa_cons (pv 2) pa_nil)))))))), ?_⟩
    have lv : vs.length = ts.length := by rw [DpAll.len hd, List.length_map]
    have g1 := g.one
    -- the pot's position and point
    refine ⟨_, rfl, _, rfl, L, vs, rfl, .inl (SqL.mk (wd.s _ _ hL)), p, _, D, rfl, wd, by show (1 : Int) ≤ ((vs.length : Nat) : Int); omega, by show ((vs.length : Nat) : Int) < 1073741824; omega, fun H1 d w1 d0 d1 => ?_⟩
    refine ⟨_, rfl, p, 4, D, rfl, w1, by decide, by decide, ?_⟩
    rintro _ D2 H2 s2 w2 ⟨lp, a, b, c, rfl, hp, nz, bd⟩
    obtain ⟨i, rfl⟩ : ∃ i : Nat, d = (i : Nat) := ⟨d.toNat, by omega⟩
    have hi : i < ts.length := by
      have : ((i : Nat) : Int) < ((vs.length : Nat) : Int) := d1
      omega
    have e27 : (2 : Nat) ^ 27 = 134217728 := rfl
    have sm : ∀ n ∈ [a, b, c], n.natAbs < 2 ^ 27 := fun n hn => by
      have := bd n hn
      omega
    refine ⟨_, _, rfl, ?_⟩
    have spx2 := spx.same (s2.trans w2.s)
    have spy2 := spy.same (s2.trans w2.s)
    have hL2 := (s2.trans w2.s) _ _ hL
    have hd2 := DpAll.same (s2.trans w2.s) hd
    have hp2 := w2.s _ _ hp
    dsimp only
    refine seq_join (fun σ H => ∃ y6 y7 y8, σ = [some (.ref p), some (.ref x), some (.ref L), some (.ref y), some (.int (i : Nat)), some (.ref lp), y6, y7, y8, none, none, none] ∧ Same H2 H) ?_ ?_
    · intro N hN
      obtain ⟨dx, lx, vx, hx, _, _⟩ := id spx2
      refine ⟨_, rfl, L, vs, rfl, .inl (SqL.mk hL2), _, _, rfl, rfl, _, rfl, ?_⟩
      by_cases l2 : 2 ≤ ts.length
      · rw [decide_eq_true (show (1 : Int) < ((vs.length : Nat) : Int) by omega)]
        refine iteT ?_
        have ge := g.erase l2 hi
        obtain ⟨ti, hti⟩ : ∃ t, ts[i]? = some t := ⟨ts[i]'hi, List.getElem?_eq_getElem _⟩
        obtain ⟨vi, hvi⟩ : ∃ u, vs[i]? = some u := ⟨vs[i]'(by omega), List.getElem?_eq_getElem _⟩
        have mti := List.mem_of_getElem? hti
        have told := g.told ti mti
        have ptD : Pt K H2 vi ti := pts_of hd2 g i vi ti hvi hti
        have dvi : Dp K H2 vi (dTup ti) := dp_at (i := i) hd2 hvi (by rw [List.getElem?_map, hti]; rfl)
        have nin : ti ∉ ts.take i ++ ts.drop (i + 1) := not_erase g.nd hti
        have ai : atI vs (i : Nat) = some vi := atI_nat hvi
        -- less
        refine ⟨_, rfl, x, dx, _, rfl, hx, rfl, _, rfl, x, ts, i, rfl, spx2, g, hi, l2, fun H3 y3 s3 n3 sp3 => ?_⟩
        -- left
        have i1 : ((i : Nat) : Int) + 1 = ((i + 1 : Nat) : Int) := by omega
        have hL3 := s3 _ _ hL2
        refine ⟨_, rfl, _, rfl, _, rfl, L, vs, rfl, SqL.mk hL3, fun a1 m1 => ?_⟩
        rw [cut_lo]
        have sa := same_new (o := .lst (vs.take i)) m1
        refine ⟨_, rfl, _, rfl, _, _, rfl, rfl, _, rfl, L, vs, rfl, SqL.mk (sa _ _ hL3), fun a2 m2 => ?_⟩
        rw [i1, cut_hi]
        have sb := same_new (o := .lst (vs.drop (i + 1))) m2
        have sz : (vs.take i).length + (vs.drop (i + 1)).length ≤ sizeLine := by
          rw [List.length_take, List.length_drop, lv, sizeLine_eq]
          omega
        refine ⟨_, _, _, _, rfl, rfl, sb _ _ upd_same, upd_same, sz, fun a3 m3 => ?_⟩
        have sc := same_new (o := .lst (vs.take i ++ vs.drop (i + 1))) m3
        have e1 : (upd (upd (upd H3 a1 (.lst (vs.take i))) a2 (.lst (vs.drop (i + 1)))) a3 (.lst (vs.take i ++ vs.drop (i + 1)))) a3 = some (.lst (vs.take i ++ vs.drop (i + 1))) := upd_same
        have sA := s3.trans ((sa.trans sb).trans sc)
        have sp4 := sp3.same ((sa.trans sb).trans sc)
        revert sA sp4 e1
        generalize upd (upd (upd H3 a1 (.lst (vs.take i))) a2 (.lst (vs.drop (i + 1)))) a3 (.lst (vs.take i ++ vs.drop (i + 1))) = H4
        intro e1 sA sp4
        have hdl : DpAll K H4 (vs.take i ++ vs.drop (i + 1)) ((ts.take i ++ ts.drop (i + 1)).map dTup) := by
          rw [List.map_append, List.map_take, List.map_drop]
          exact DpAll.same sA (DpAll.append (DpAll.take i hd2) (DpAll.drop (i + 1) hd2))
        -- it shows
        refine ⟨_, rfl, _, rfl, y3, .ref a3, _, rfl, sp4, ⟨a3, _, rfl, e1, hdl⟩, ge, fun H5 s5 => ?_⟩
        refine ⟨true, rfl, iteF ?_⟩
        obtain ⟨dy, ly, vy, hy, _, _⟩ := id (sp4.same s5)
        have sB := sA.trans s5
        refine ⟨_, rfl, y3, dy, _, rfl, hy, rfl, _, rfl, _, rfl, L, _, _, _, rfl, rfl, SqL.mk (sB _ _ hL2), ai, ?_⟩
        refine ⟨y3, _, vi, ti, none, rfl, sp4.same s5, ptD.same sB, by rw [told]; exact nin, fun H6 s6 => ?_⟩
        refine ⟨rfl, _, rfl, ?_⟩
        rw [show (!decide (placeV none = V.non)) = false from ne_self V.non]
        refine iteF ?_
        -- it is not the same points
        have sC := sB.trans s6
        have sp6 := (sp4.same s5).same s6
        refine ⟨_, rfl, _, rfl, y3, x, _, ts, rfl, sp6, spx2.same sC, ge, g, fun H7 b7 s7 hb7 => ?_⟩
        have bf : b7 = false := by
          cases b7 with
          | false => rfl
          | true =>
            have := (hb7.mp rfl).length_eq
            rw [List.length_append, List.length_take, List.length_drop] at this
            omega
        subst bf
        refine ⟨_, _, rfl, rfl, _, rfl, iteF ?_⟩
        have sD := sC.trans s7
        have sp7 := sp6.same s7
        -- again
        obtain ⟨dz, lz, vz, hz, _, _⟩ := id sp7
        have el := erase_len hi
        refine ⟨_, rfl, y3, dz, _, rfl, hz, rfl, _, rfl, _, rfl, L, _, _, _, rfl, rfl, SqL.mk (sD _ _ hL2), ai, ?_⟩
        refine ⟨y3, _, vi, ti, rfl, sp7, ge, ptD.same sD, g.len ti mti, by rw [told]; exact nin, by omega, fun H8 y8 s8 n8 sp8 => ?_⟩
        rw [told] at sp8
        have sE := sD.trans s8
        have gg : Good (ts.take i ++ ts.drop (i + 1) ++ [ti]) := ge.snoc (by omega) (g.len ti mti) (g.nz ti mti) (g.sm ti mti) told nin
        -- left + [found[position]]
        have e8 : H8 a3 = some (.lst (vs.take i ++ vs.drop (i + 1))) := (((s5.trans s6).trans s7).trans s8) _ _ e1
        refine ⟨_, rfl, _, rfl, _, rfl, _, rfl, L, _, _, _, rfl, rfl, SqL.mk (sE _ _ hL2), ai, by show 1 ≤ sizeLine; decide, fun a4 m4 => ?_⟩
        have sf := same_new (o := .lst [vi]) m4
        refine ⟨_, _, _, _, rfl, rfl, sf _ _ e8, upd_same, by rw [List.length_append, List.length_take, List.length_drop, lv, sizeLine_eq]; show _ + 1 ≤ _; omega, fun a5 m5 => ?_⟩
        have sg := same_new (o := .lst (vs.take i ++ vs.drop (i + 1) ++ [vi])) m5
        have e5 : (upd (upd H8 a4 (.lst [vi])) a5 (.lst (vs.take i ++ vs.drop (i + 1) ++ [vi]))) a5 = some (.lst (vs.take i ++ vs.drop (i + 1) ++ [vi])) := upd_same
        have sF := sE.trans (sf.trans sg)
        have sp9 := sp8.same (sf.trans sg)
        have sp3' := ((sp7.same s8).same (sf.trans sg))
        revert sF sp9 sp3' e5
        generalize upd (upd H8 a4 (.lst [vi])) a5 (.lst (vs.take i ++ vs.drop (i + 1) ++ [vi])) = H9
        intro e5 sF sp9 sp3'
        have hd9 : DpAll K H9 (vs.take i ++ vs.drop (i + 1) ++ [vi]) ((ts.take i ++ ts.drop (i + 1) ++ [ti]).map dTup) := by
          rw [List.map_append, List.map_append, List.map_take, List.map_drop]
          exact DpAll.same sF (DpAll.append (DpAll.append (DpAll.take i hd2) (DpAll.drop (i + 1) hd2)) (.cons dvi .nil))
        refine ⟨y8, .ref a5, _, rfl, sp9, ⟨a5, _, rfl, e5, hd9⟩, gg, fun H10 s10 => ⟨true, rfl, iteF ?_⟩⟩
        have sG := sF.trans s10
        have sp10 := sp9.same s10
        refine ⟨_, rfl, _, rfl, y8, y, _, us, rfl, sp10, spy2.same sG, gg, gu, fun H11 b11 s11 hb11 => ?_⟩
        have bt : b11 = true := hb11.mpr ((erase_perm hti).trans pm.symm)
        subst bt
        refine ⟨_, _, rfl, rfl, _, rfl, iteF ?_⟩
        have sH := sG.trans s11
        have sp11 := sp10.same s11
        have sp3b := (sp3'.same s10).same s11
        -- by keyword
        refine ⟨_, rfl, x, dx, _, rfl, sH _ _ hx, rfl, _, rfl, rfl, x, ts, i, rfl, spx2.same sH, g, hi, l2, fun H12 y12 s12 n12 sp12 => ?_⟩
        obtain ⟨dA, lA, vA, hA, _, _⟩ := id sp12
        obtain ⟨dB, lB, vB, hB, _, _⟩ := id (sp3b.same s12)
        refine ⟨_, rfl, y12, y3, dA, dB, _, _, rfl, rfl, hA, hB, y12, .ref y3, _, rfl, sp12, .inl ⟨y3, _, rfl, sp3b.same s12, _, rfl, _, rfl, ?_⟩⟩
        rw [decide_eq_true rfl]
        refine iteF ?_
        have sI := sH.trans s12
        have sp3c := sp3b.same s12
        have sp11c := sp11.same s12
        refine ⟨_, rfl, y3, dB, _, rfl, hB, rfl, _, rfl, _, rfl, L, _, _, _, rfl, rfl, SqL.mk (sI _ _ hL2), ai, ?_⟩
        refine ⟨rfl, y3, _, vi, ti, rfl, sp3c, ge, ptD.same sI, g.len ti mti, by rw [told]; exact nin, by omega, fun H13 y13 s13 n13 sp13 => ?_⟩
        rw [told] at sp13
        obtain ⟨dA2, lA2, vA2, hA2, _, _⟩ := id sp13
        obtain ⟨dB2, lB2, vB2, hB2, _, _⟩ := id (sp11c.same s13)
        refine ⟨_, rfl, y13, y8, dA2, dB2, _, _, rfl, rfl, hA2, hB2, y13, .ref y8, _, rfl, sp13, .inl ⟨y8, _, rfl, sp11c.same s13, _, rfl, _, rfl, ?_⟩⟩
        rw [decide_eq_true rfl]
        refine iteF ?_
        exact hN _ _ ⟨_, _, _, rfl, sI.trans s13⟩
      · rw [decide_eq_false (show ¬ (1 : Int) < ((vs.length : Nat) : Int) by omega)]
        exact iteF (hN _ _ ⟨_, _, _, rfl, Same.refl _⟩)
    · rintro σ H3 ⟨y6, y7, y8, rfl, s3⟩
      have w3 := w2.pure s3
      refine ⟨_, rfl, lp, [a, b, c], rfl, SqL.mk (s3 _ _ hp2), nz, fun n hn => Nat.lt_trans (sm n hn) (by decide), by show 3 ≤ 1000; decide, fun H4 t9 s4 n9 h9 => ?_⟩
      have w4 := w3.pure s4
      have t9p := w3.ne n9
      have sL := s3.trans s4
      dsimp only
      refine seq_join (fun σ H => ∃ y6 y7 y8 y9 y10 y11, σ = [some (.ref p), some (.ref x), some (.ref L), some (.ref y), some (.int (i : Nat)), some (.ref lp), y6, y7, y8, y9, y10, y11] ∧ Wd p D H) ?_ ?_
      · intro N hN
        refine ⟨_, rfl, _, rfl, dTup (plainI [a, b, c]), ts.map dTup, dp_tup (SqT.mk h9), .lst (SqL.mk (sL _ _ hL2)) (DpAll.same sL hd2), shaped_tup _, shaped_tups _, ?_⟩
        rw [any_eqv]
        refine ⟨_, rfl, ?_⟩
        have wD4 : Wd p D H4 := ⟨s2.trans w4.s, wd.n, w4.pot⟩
        by_cases mem : plainI [a, b, c] ∈ ts
        · rw [decide_eq_true mem]
          exact iteF (hN _ _ ⟨_, _, _, _, _, _, rfl, wD4⟩)
        · rw [decide_eq_false mem]
          refine iteT ?_
          obtain ⟨dx, lx, vx, hx, _, _⟩ := id spx
          obtain ⟨wA, sA⟩ := w4.all
          have hlp : H4 lp = some (.lst ([a, b, c].map V.int)) := sL _ _ hp2
          let FX : V → Option V := fun x => match x with | .int n => some (.int (2 * n)) | _ => none
          refine ⟨_, rfl, x, dx, _, rfl, w4.s _ _ (s2 _ _ hx), rfl, _, rfl, _, rfl, lp, rfl, ⟨_, SqL.mk hlp⟩, fun l hl => lcL FX (SqL.mk hlp) (by show 3 < sizeLine; decide) hl (fun x hx H4 _ G N _ g2 => ?_) fun H5 s5 h5 => ?_⟩
          · obtain ⟨n, hn, rfl⟩ := mem_int hx
            have := sm n hn
            refine ⟨rfl, yes_ite ?_⟩
            exact ⟨_, rfl, _, _, rfl, rfl, .inl ⟨by decide, by decide⟩, g2 _ rfl _ (Same.refl _)⟩
          have fx : fm FX ([a, b, c].map V.int) = ([a, b, c].map fun n => 2 * n).map V.int := rfl
          rw [fx] at h5
          obtain ⟨w5, s5', h5'⟩ := wA.new s5 hl h5
          refine ⟨p, l, _, _, rfl, w5, SqL.mk h5', fun v5 D6 H6 s6 w6 hv5 => ?_⟩
          obtain ⟨q5, rfl, hq5, _⟩ := hv5
          have sD6 : Same D D6 := s2.trans (sA.trans (s5'.trans s6))
          have s46 : Same (del H4 p) D6 := s5'.trans s6
          have wD6 : Wd p D H6 := ⟨sD6.trans w6.s, wd.n, w6.pot⟩
          have nz2 : ∃ n ∈ ([a, b, c].map fun n => 2 * n), n ≠ 0 := by
            obtain ⟨n, hn, h0⟩ := nz
            exact ⟨2 * n, List.mem_map.mpr ⟨n, hn, rfl⟩, by omega⟩
          have sm2 : ∀ n ∈ ([a, b, c].map fun n => 2 * n), n.natAbs < 2 ^ 30 := fun n hn => by
            obtain ⟨m, hm, rfl⟩ := List.mem_map.mp hn
            have b1 := sm m hm
            have e30 : (2 : Nat) ^ 30 = 1073741824 := rfl
            omega
          have pl2 : plainI ([a, b, c].map fun n => 2 * n) = plainI [a, b, c] := plainI_scale (by decide) nz
          have sD6x := sD6.trans w6.s
          have spx6 := spx.same sD6x
          refine ⟨x, ts, .ref q5, ([a, b, c].map fun n => 2 * n), rfl, spx6, g, ⟨⟨q5, _, _, _, rfl, rfl, hq5.same w6.s⟩, nz2, sm2⟩, rfl, by rw [pl2]; exact mem, by omega, fun H7 y7 s7 n7 sp7 => ?_⟩
          rw [pl2] at sp7
          have told9 : H7 t9 = some (.tup ((plainI [a, b, c]).map V.int)) := (s46.trans (w6.s.trans s7)) _ _ (by rw [del_ne t9p]; exact h9)
          have sm30 : ∀ n ∈ [a, b, c], n.natAbs < 2 ^ 30 := fun n hn => Nat.lt_trans (sm n hn) (by decide)
          have gg : Good (ts ++ [plainI [a, b, c]]) := g.snoc (by omega) (plainI_len _) (plainI_nz nz) (plainI_le nz sm30) (plainI_told nz) mem
          have sD7 := sD6x.trans s7
          -- found + [told]
          refine ⟨_, rfl, _, rfl, _, rfl, by show 1 ≤ sizeLine; decide, fun a4 m4 => ?_⟩
          have sf := same_new (o := .lst [.ref t9]) m4
          refine ⟨_, _, _, _, rfl, rfl, sf _ _ (sD7 _ _ hL), upd_same, by rw [lv, sizeLine_eq]; show _ + 1 ≤ _; omega, fun a5 m5 => ?_⟩
          have sg := same_new (o := .lst (vs ++ [.ref t9])) m5
          have e5 : (upd (upd H7 a4 (.lst [.ref t9])) a5 (.lst (vs ++ [.ref t9]))) a5 = some (.lst (vs ++ [.ref t9])) := upd_same
          have sF := sD7.trans (sf.trans sg)
          have told9b := (sf.trans sg) _ _ told9
          have sp9 := sp7.same (sf.trans sg)
          have s79 := sf.trans sg
          revert sF sp9 told9b e5 s79
          generalize upd (upd H7 a4 (.lst [.ref t9])) a5 (.lst (vs ++ [.ref t9])) = H9
          intro e5 sF told9b sp9 s79
          have hd9 : DpAll K H9 (vs ++ [.ref t9]) ((ts ++ [plainI [a, b, c]]).map dTup) := by
            rw [List.map_append]
            exact DpAll.append (DpAll.same sF hd) (.cons (dp_tup (SqT.mk told9b)) .nil)
          refine ⟨y7, .ref a5, _, rfl, sp9, ⟨a5, _, rfl, e5, hd9⟩, gg, fun H10 s10 => ⟨true, rfl, iteF ?_⟩⟩
          have sG := sF.trans s10
          have hlp10 : H10 lp = some (.lst ([a, b, c].map V.int)) := (s46.trans (w6.s.trans (s7.trans (s79.trans s10)))) _ _ (by rw [del_ne (w2.ne' hp2 (Nat.le_refl 3))]; exact hlp)
          refine ⟨_, rfl, x, dx, _, rfl, sG _ _ hx, rfl, _, rfl, x, ts, .ref lp, [a, b, c], none, rfl, spx.same sG, ⟨⟨lp, a, b, c, rfl, rfl, .inl (SqL.mk hlp10)⟩, nz, sm30⟩, mem, fun H11 s11 => ?_⟩
          refine ⟨rfl, _, rfl, ?_⟩
          rw [show (!decide (placeV none = V.non)) = false from ne_self V.non]
          refine iteF ?_
          have sH := sG.trans s11
          have sp11 := (sp9.same s10).same s11
          refine ⟨_, rfl, _, rfl, y7, x, _, ts, rfl, sp11, spx.same sH, gg, g, fun H12 b12 s12 hb12 => ?_⟩
          have bf : b12 = false := by
            cases b12 with
            | false => rfl
            | true =>
              have := (hb12.mp rfl).length_eq
              rw [List.length_append] at this
              exact absurd this (by show ts.length + 1 ≠ ts.length; omega)
          subst bf
          refine ⟨_, _, rfl, rfl, _, rfl, iteF ?_⟩
          have sI := sH.trans s12
          have sp12 := sp11.same s12
          have wEnd : ∀ {H' : Hp}, Same H12 H' → Wd p D H' := fun e => wD6.pure ((s7.trans (s79.trans (s10.trans (s11.trans s12)))).trans e)
          refine ⟨_, rfl, L, vs, rfl, .inl (SqL.mk (sI _ _ hL)), _, _, rfl, rfl, _, rfl, ?_⟩
          by_cases l2 : 2 ≤ ts.length
          · rw [decide_eq_true (show (1 : Int) < ((vs.length : Nat) : Int) by omega)]
            refine iteT ?_
            obtain ⟨dz, lz, vz, hz, _, _⟩ := id sp12
            refine ⟨_, rfl, y7, dz, _, rfl, hz, rfl, _, rfl, y7, _, i, rfl, sp12, gg, by rw [List.length_append]; omega, by rw [List.length_append]; omega, fun H13 y13 s13 n13 sp13 => ?_⟩
            have hi2 : i < (ts ++ [plainI [a, b, c]]).length := by rw [List.length_append]; omega
            refine ⟨_, rfl, y13, x, _, ts, rfl, sp13, (spx.same sI).same s13, gg.erase (by rw [List.length_append]; show 2 ≤ ts.length + 1; omega) hi2, g, fun H14 b14 s14 hb14 => ?_⟩
            have bf : b14 = false := by
              cases b14 with
              | false => rfl
              | true =>
                refine absurd ((hb14.mp rfl).mem_iff.mp (List.mem_append.mpr (.inr ?_))) mem
                rw [List.drop_append_of_le_length (by omega)]
                simp
            subst bf
            refine ⟨_, _, rfl, rfl, _, rfl, iteF ?_⟩
            exact hN _ _ ⟨_, _, _, _, _, _, rfl, wEnd (s13.trans s14)⟩
          · rw [decide_eq_false (show ¬ (1 : Int) < ((vs.length : Nat) : Int) by omega)]
            exact iteF (hN _ _ ⟨_, _, _, _, _, _, rfl, wEnd (Same.refl _)⟩)
      · rintro σ H5 ⟨y6, y7, y8, y9, y10, y11, rfl, w5⟩
        exact ⟨_, rfl, _, rfl, x, .ref L, ts, rfl, spx.same w5.s, ⟨L, vs, rfl, w5.s _ _ hL, DpAll.same w5.s hd⟩, g, fun H6 s6 => q H6 (w5.pure s6)⟩
end
end G0

namespace G0
open PySem PySem.Spec PyProof.Rows L2
section
variable {P : Program} {w : World} {K : PySem.W.Frag} {mg : Str → Option Value} {base : Heap}
theorem raw_of {D : Hp} : ∀ {us : List V} {ts : List (List Int)}, us.length = ts.length → (∀ (j : Nat) (u : V) (t : List Int), us[j]? = some u → ts[j]? = some t → ∃ t', Pt K D u t' ∧ plainI t' = t) →
    ∃ rs : List (List Int), us.length = rs.length ∧ (∀ (i : Nat) (v : V) (t : List Int), us[i]? = some v → rs[i]? = some t → Pt K D v t) ∧ rs.map plainI = ts
  | [], [], _, _ => ⟨[], rfl, fun i v t h => by simp at h, rfl⟩
  | [], _ :: _, h, _ => by cases h
  | _ :: _, [], h, _ => by cases h
  | u :: us, t :: ts, hl, h => by
    obtain ⟨rs, r1, r2, r3⟩ := raw_of (us := us) (ts := ts) (Nat.succ.inj hl) fun j v s hv hs => h (j + 1) v s hv hs
    obtain ⟨t', p, e⟩ := h 0 u t rfl rfl
    refine ⟨t' :: rs, by rw [List.length_cons, List.length_cons, r1], fun i v s hv hs => ?_, by rw [List.map_cons, e, r3]⟩
    match i, hv, hs with
    | 0, hv, hs =>
      cases hv
      cases hs
      exact p
    | i + 1, hv, hs => exact r2 i v s hv hs
theorem made_raw {C : Addr} {H1 : Hp} {M x dx : Addr} {us : List V} {ts : List (List Int)} {R : VK} {E : XK} (hM : Sq K H1 M us) (h : HandedAs K H1 us ts) (g : Good ts) (nx : H1 x = none) (ndx : H1 dx = none) (k : ∀ H', Same H1 H' → SpotsAt K C H' x ts → R .non H') :
    sp_init K C [V.ref x, V.ref M] (upd (upd H1 dx (.own x)) x (.ins C dx [])) R E := by
  have s7 : Same H1 (upd (upd H1 dx (.own x)) x (.ins C dx [])) := fun b o e => by
    rw [upd_ne (ne_of_none e nx), upd_ne (ne_of_none e ndx)]
    exact e
  obtain ⟨ds, l1, _, _, h4⟩ := h
  obtain ⟨rs, r1, r2, r3⟩ := raw_of l1 h4
  have o := g.one
  have m := g.most
  refine ⟨H1, x, dx, M, us, rs, rfl, s7, nx, upd_same, hM, r1, r2, by omega, by omega, by rw [r3]; exact g.nd, fun H' s' sp' => k H' s' ?_⟩
  rw [r3] at sp'
  exact sp'
theorem made_told {C : Addr} {H1 : Hp} {M x dx : Addr} {us : List V} {ts : List (List Int)} {R : VK} {E : XK} (hM : SqL K H1 M us) (h : DpAll K H1 us (ts.map dTup)) (g : Good ts) (nx : H1 x = none) (ndx : H1 dx = none) (k : ∀ H', Same H1 H' → SpotsAt K C H' x ts → R .non H') :
    sp_init K C [V.ref x, V.ref M] (upd (upd H1 dx (.own x)) x (.ins C dx [])) R E := by
  have s7 : Same H1 (upd (upd H1 dx (.own x)) x (.ins C dx [])) := fun b o e => by
    rw [upd_ne (ne_of_none e nx), upd_ne (ne_of_none e ndx)]
    exact e
  have gm := g.map
  refine ⟨H1, x, dx, M, us, ts, rfl, s7, nx, upd_same, .inl hM, by rw [DpAll.len h, List.length_map], pts_of h g, g.one, g.most, by rw [gm]; exact g.nd, fun H' s' sp' => k H' s' ?_⟩
  rw [gm] at sp'
  exact sp'
theorem handed_dp {D : Hp} {M : Addr} {us : List V} {ts : List (List Int)} (hM : Sq K D M us) (h : HandedAs K D us ts) (l : ts.length ≤ 24) : ∃ d, Dp K D (.ref M) d ∧ Fine d := by
  obtain ⟨ds, l1, h2, h3, _⟩ := h
  rcases hM with hM | hM
  · exact ⟨_, .lst hM h2, .lst h3 (by decide) (by omega)⟩
  · exact ⟨_, .tup hM h2, .tup h3 (by decide) (by omega)⟩
theorem fine_bb (a b : Bool) : Fine (.list [.bool a, .bool b]) := by
  have e2 := FineAll.cons (d := .bool b) (dep := 0) (s1 := 5) (by simp only [PyData.showable]) (by simp only [PyData.hasDict]) (by simp only [PyData.depth]; omega) (by simp only [szD]; omega) (.nil (sz := 0))
  have e1 := FineAll.cons (d := .bool a) (dep := 0) (s1 := 5) (by simp only [PyData.showable]) (by simp only [PyData.hasDict]) (by simp only [PyData.depth]; omega) (by simp only [szD]; omega) e2
  exact .lst e1 (by decide) (by omega)
theorem perm_good {ts us : List (List Int)} (g : Good ts) (p : us.Perm ts) : Good us :=
  ⟨by rw [p.length_eq]; exact g.one, by rw [p.length_eq]; exact g.most, p.nodup_iff.mpr g.nd, fun t h => g.len t (p.mem_iff.mp h), fun t h => g.nz t (p.mem_iff.mp h), fun t h => g.sm t (p.mem_iff.mp h), fun t h => g.told t (p.mem_iff.mp h)⟩
theorem _root_.L2.Same.put {H H' : Hp} {L : Addr} {o : HO} (e : Same H H') (h : H L = none) : Same H (upd H' L o) := fun b u eb => by
  rw [upd_ne (ne_of_none eb h)]
  exact e _ _ eb
theorem tups_len {H : Hp} {l : Addr} {ts : List (List Int)} (t : Tups K H l ts) : ∀ vs, H l = some (.lst vs) → vs.length = ts.length := by
  obtain ⟨v, h, d⟩ := t
  intro vs e
  rw [h] at e
  cases e
  rw [DpAll.len d, List.length_map]
def sp_right : Sp := fun vs H Q _ => ∃ (p : Addr) (D : Hp), vs = [.ref p] ∧ Wd p D H ∧ ∀ H', Wd p D H' → Q (.bl true) H'
theorem sc_right : FnScope ["_law_pot_here", "_law_found", "_law_handed_here", "_law_shown", "_law_spots_here", "_law_mixed_here", "_law_other"] ["_law_pot_here"] (defScope s_right) := ⟨rfl, rfl, rfl, by decide +kernel, rfl, by decide +kernel, by decide +kernel⟩
theorem ok_right {f C fSh fPa : Addr} {fd dSh dPa : FuncData} (F : Fun K "_law_right" "_law_right" s_right f fd) (T : Lib P w K mg base C) (DS : Df K mg "_law_shows" s_law_shows ["_law_spots_here", "_law_found"] fSh dSh) (GS : FnG P w K mg base 6 fSh dSh ["_law_spots_here", "_law_found"] (sp_shows K C))
    (DP : Df K mg "_law_parts_right" s_parts ["_law_pot_here", "_law_spots_here", "_law_found", "_law_other"] fPa dPa) (GPa : FnG P w K mg base 8 fPa dPa ["_law_pot_here", "_law_spots_here", "_law_found", "_law_other"] (sp_parts K C)) :
    FnG P w K mg base 9 f fd ["_law_pot_here"] sp_right := by
  refine F.okG sc_right (fun vs H Q E h => ?_) (fun cdv A outer s H vs Q E gd hr h => ?_)
  · obtain ⟨p, D, rfl, _⟩ := h
    rfl
  · obtain ⟨p, D, rfl, wd, q⟩ := h
    have B := T.B
    have r1 : Room 1 _ := hr.mono (by decide)
    have r2 : Room 2 _ := hr.mono (by decide)
    have r3 : Room 3 _ := hr.mono (by decide)
    have r6 : Room 6 _ := hr.mono (by decide)
    have hu := hr.units
    refine ⟨_, pss_cons (ps_set (i := 1) sc_right.nd rfl (Or.inl rfl) (pdf T.Spots T.GSpots r3 (pa_cons (pv 0) (pa_cons (pe_op op_add pe_int (pdf T.Draw T.GDraw r1 (pa_cons (pv 0) (pa_cons pe_int pa_nil)))) (pa_cons pe_int pa_nil)))))
      (pss_cons (ps_set (i := 2) sc_right.nd rfl (Or.inl rfl) (pdf T.Handed T.GHanded r3 (pa_cons (pv 0) (pa_cons (pv 1) pa_nil))))
      (pss_cons (ps_par (i := 3) (j := 4) rfl sc_right.nd rfl rfl (by decide) rfl rfl (pa_cons (pe_callB (call_repr gd hu) (by rfl) B.repr boot_repr (pa_cons (pv 2) pa_nil)) (pa_cons (pe_make (E := E0) T.M T.GI r6 (by rfl) T.S.mgC T.bI .nil pass0 (pa_cons (pv 2) pa_nil)) pa_nil)) (by rfl))
      (pss_cons (ps_if (PW.pt (pw_or (pt_not (pt_val (pe_callG (E := E0) GS gd r6 (by rfl) DS.g DS.F.kp DS.b .nil (pa_cons (pv 4) (pa_cons (pv 1) pa_nil))))) (pw_or (pt_not (pt_val (pe_callG (E := E0) GS gd r6 (by rfl) DS.g DS.F.kp DS.b .nil (pa_cons (pe_makeK0 (E := E0) T.M T.GI r6 (by rfl) T.S.mgC T.kI.n pass0 (pk_cons (pe_callTy call_list_of (by rfl) B.list boot_tlist (pa_cons (pv 2) pa_nil)) pk_nil)) (pa_cons (pv 1) pa_nil)))))
          (pw_or1 (pt_cmpR op_ne (pe_callB (call_repr gd hu) (by rfl) B.repr boot_repr (pa_cons (pv 2) pa_nil)) (pv 3) (nomark _)))))) (pss_one ps_never) pss_nil)
      (pss_cons (ps_expr (pe_bm PySem.F.plainAttrs_list PySem.F.slot_list_append PySem.F.type_list_append mt_append (pe_meth0 (E := E0) (pv 4) T.S.cl T.mP T.GP r1 T.bP .nil pass0) (pa_cons (pe_tup (pa_cons pe_int (pa_cons pe_int (pa_cons pe_int pa_nil)))) pa_nil)))
      (pss_cons (ps_set (i := 5) sc_right.nd rfl (Or.inl rfl) (pdf T.Mixed T.GMixed r2 (pa_cons (pv 0) (pa_cons (pv 1) pa_nil))))
      (pss_cons (ps_set (i := 6) sc_right.nd rfl (Or.inl rfl) (pe_make (E := E0) T.M T.GI r6 (by rfl) T.S.mgC T.bI .nil pass0 (pa_cons (pv 5) pa_nil)))
      (pss_cons (ps_if (pt_cmpR op_ne (pe_callB (call_repr gd hu) (by rfl) B.repr boot_repr (pa_cons (pe_lst (pa_cons (pe_cmpR (op_eqOwn (E := E0) T.GE T.eo r1 T.bE) (pv 4) (pv 6) (nomark _)) (pa_cons (pe_cmpR (op_neOwn (E := E0) T.GE T.no r2 T.bE) (pv 4) (pv 6) (nomark _)) pa_nil))) pa_nil))
          (pe_callB (call_repr gd hu) (by rfl) B.repr boot_repr (pa_cons (pe_lst (pa_cons (pe_cmpR (op_eqD hu) (pv 5) (pv 1) (nomark _)) (pa_cons (pe_cmpR (op_neD hu) (pv 5) (pv 1) (nomark _)) pa_nil))) pa_nil)) (nomark _)) (pss_one ps_never) pss_nil)
      (pss_cons (ps_if (PW.pt (pw_or (pt_cmpR (op_eqOwn (E := E0) T.GE T.eo r1 T.bE) (pv 4) (pv 1) (nomark _)) (pw_or1 (pt_cmpR (op_eqOwn (E := E0) T.GE T.eo r1 T.bE) (pv 4) (pe_callTy call_tuple_of (by rfl) B.tuple boot_ttuple (pa_cons (pv 1) pa_nil)) (nomark _))))) (pss_one ps_never) pss_nil)
      (pss_cons (ps_if (PW.pt (pw_or (pt_cmpR op_notBl (pdf T.Sm T.GSm r2 (pa_cons (pv 4) (pa_cons (pv 6) pa_nil))) pe_bl (nomark _)) (pw_or (pt_cmpR op_notBl (pe_callS (E := E0) T.GSm r2 (by rfl) T.Sm.g T.Sm.F.kp T.kSm (pk_cons (pv 4) (pk_cons (pv 6) pk_nil))) pe_bl (nomark _)) (pw_or1 (pt_not (pt_cmpR (op_eqOwn (E := E0) T.GE T.eo r1 T.bE) (pv 4) (pe_make (E := E0) T.M T.GI r6 (by rfl) T.S.mgC T.bI .nil pass0 (pa_cons (pv 1) pa_nil)) (nomark _))))))) (pss_one ps_never) pss_nil)
      (pss_one (ps_ret (pe_callG (E := E0) GPa gd hr (by rfl) DP.g DP.F.kp DP.b .nil (pa_cons (pv 0) (pa_cons (pv 4) (pa_cons (pv 1) (pa_cons (pv 6) pa_nil)))))))))))))))), ?_⟩
    -- found
    refine ⟨_, rfl, _, rfl, p, 12, D, rfl, wd, by decide, by decide, fun H1 d w1 d0 d1 => ?_⟩
    refine ⟨_, _, rfl, rfl, p, _, 3, D, rfl, w1, by omega, by omega, by decide, by decide, ?_⟩
    rintro _ D2 H2 s2 w2 ⟨ts, ⟨L, vs, rfl, hL, hd⟩, g, l12, g27⟩
    -- handed
    refine ⟨_, rfl, _, rfl, p, _, D2, ts, rfl, w2, ⟨L, vs, rfl, hL, hd⟩, g, g27, ?_⟩
    rintro _ D3 H3 s3 w3 ⟨M, us, rfl, hM, ha⟩
    have hL3 := s3 _ _ hL
    have hd3 := DpAll.same s3 hd
    have tl : ∀ {H' : Hp}, Same D3 H' → TList K H' (.ref L) ts := fun e => ⟨L, vs, rfl, e _ _ hL3, DpAll.same e hd3⟩
    obtain ⟨dM, dpM, fineM⟩ := handed_dp hM ha (by omega)
    -- shown, Spots(handed)
    refine ⟨_, rfl, M, dM, rfl, Dp.same w3.s dpM, fineM, ?_⟩
    refine ⟨_, rfl, fun x dx nx ndx _ => made_raw (hM.same w3.s) (ha.same w3.s) g nx ndx fun H4 s4 sp4 => ⟨rfl, ?_⟩⟩
    refine ⟨_, _, rfl, ?_⟩
    have w4 := w3.pure s4
    -- it shows, twice
    refine ⟨_, rfl, _, rfl, x, .ref L, ts, rfl, sp4, tl w4.s, g, fun H5 s5 => ⟨true, rfl, iteF ?_⟩⟩
    have w5 := w4.pure s5
    refine ⟨_, rfl, M, us, rfl, hM.same w5.s, fun l hl => ⟨rfl, rfl, fun x2 dx2 nx2 ndx2 _ => ?_⟩⟩
    have s6 := same_new (o := .lst us) hl
    have w6 := w5.pure s6
    refine made_raw (.inl (SqL.mk upd_same)) (ha.same w6.s) g nx2 ndx2 fun H7 s7 sp7 => ⟨rfl, ?_⟩
    have w7 := w6.pure s7
    refine ⟨_, rfl, x2, .ref L, ts, rfl, sp7, tl w7.s, g, fun H8 s8 => ⟨true, rfl, iteF ?_⟩⟩
    have w8 := w7.pure s8
    refine ⟨_, rfl, M, dM, rfl, Dp.same w8.s dpM, fineM, _, rfl, rfl, _, rfl, ?_⟩
    rw [ne_self]
    refine iteF ?_
    have sp8 := ((sp4.same s5).same (s6.trans s7)).same s8
    -- points() is a copy
    obtain ⟨dx8, lx8, vx8, hx8, _, _⟩ := id sp8
    refine ⟨_, rfl, x, dx8, _, rfl, hx8, rfl, x, ts, rfl, sp8, fun H9 l9 s9 n9 t9 => ?_⟩
    obtain ⟨v9, h9, _⟩ := id t9
    refine ⟨.inl ⟨rfl, _, SqL.mk h9⟩, by show 3 ≤ sizeLine; decide, fun a m => ?_⟩
    have sa := same_new (o := .tup [.int 1, .int 1, .int 1]) m
    have l9' := tups_len t9
    refine ⟨l9, v9, _, rfl, rfl, sa _ _ h9, by rw [l9' _ h9, sizeLine_eq]; omega, ?_⟩
    have sP : Same H8 (upd (upd H9 a (.tup [.int 1, .int 1, .int 1])) l9 (.lst (v9 ++ [.ref a]))) := (s9.trans sa).put n9
    revert sP
    generalize upd (upd H9 a (.tup [.int 1, .int 1, .int 1])) l9 (.lst (v9 ++ [.ref a])) = HA
    intro sP
    have wA := w8.pure sP
    have spA := sp8.same sP
    -- mixed
    obtain ⟨wB, sB⟩ := wA.all
    refine ⟨_, rfl, _, rfl, p, _, _, ts, rfl, wB, tl sB, by omega, ?_⟩
    rintro _ DC HC sC wC ⟨us2, ⟨M2, vs2, rfl, hM2, hd2⟩, pm⟩
    have spC : SpotsAt K C DC x ts := (spots_del wA g.one spA).same sC
    have gu := perm_good g pm
    have sDC : Same D3 DC := sB.trans sC
    refine ⟨_, rfl, fun y dy ny ndy _ => made_told (SqL.mk (wC.s _ _ hM2)) (DpAll.same wC.s hd2) gu ny ndy fun HE sE spE => ⟨rfl, ?_⟩⟩
    have wE := wC.pure sE
    have sxE := spC.same wE.s
    obtain ⟨dxE, lxE, vxE, hxE, _, _⟩ := id sxE
    obtain ⟨dyE, lyE, vyE, hyE, _, _⟩ := id spE
    -- == and !=
    refine ⟨_, rfl, _, rfl, x, dxE, _, rfl, hxE, .own hyE, x, .ref y, ts, rfl, sxE, .inl ⟨y, us2, rfl, spE, _, rfl, ?_⟩⟩
    refine ⟨_, rfl, _, rfl, x, y, dxE, dyE, _, _, rfl, rfl, hxE, hyE, x, .ref y, ts, rfl, sxE, .inl ⟨y, us2, rfl, spE, _, rfl, ?_⟩⟩
    refine ⟨by show 2 ≤ sizeLine; decide, fun b1 m1 => ?_⟩
    have sF := same_new (o := .lst [.bl (decide (ts = us2)), .bl (!decide (ts = us2))]) m1
    refine ⟨b1, .list [.bool (decide (ts = us2)), .bool (!decide (ts = us2))], rfl, .lst (SqL.mk upd_same) (.cons (.bl _) (.cons (.bl _) .nil)), fine_bb _ _, ?_⟩
    have wF := wE.pure sF
    revert sF wF
    generalize upd HE b1 (.lst [.bl (decide (ts = us2)), .bl (!decide (ts = us2))]) = HF
    intro sF wF
    have hM2F := wF.s _ _ hM2
    have hLF := wF.s _ _ (sDC _ _ hL3)
    have d5 : Dp K HF (.ref M2) (.list (us2.map dTup)) := .lst (SqL.mk hM2F) (DpAll.same wF.s hd2)
    have d1 : Dp K HF (.ref L) (.list (ts.map dTup)) := .lst (SqL.mk hLF) (DpAll.same (sDC.trans wF.s) hd3)
    refine ⟨_, rfl, _, rfl, _, _, d5, d1, shaped_tups _, shaped_tups _, ?_⟩
    refine ⟨_, rfl, _, rfl, _, _, d5, d1, shaped_tups _, shaped_tups _, ?_⟩
    rw [eqv_ltups]
    have ec : decide (us2 = ts) = decide (ts = us2) := by
      rw [Bool.eq_iff_iff, decide_eq_true_iff, decide_eq_true_iff]
      exact eq_comm
    rw [ec]
    refine ⟨by show 2 ≤ sizeLine; decide, fun b2 m2 => ?_⟩
    have sG := same_new (o := .lst [.bl (decide (ts = us2)), .bl (!decide (ts = us2))]) m2
    refine ⟨b2, .list [.bool (decide (ts = us2)), .bool (!decide (ts = us2))], rfl, .lst (SqL.mk upd_same) (.cons (.bl _) (.cons (.bl _) .nil)), fine_bb _ _, ?_⟩
    have wG := wF.pure sG
    revert sG wG
    generalize upd HF b2 (.lst [.bl (decide (ts = us2)), .bl (!decide (ts = us2))]) = HG
    intro sG wG
    refine ⟨rfl, _, rfl, ?_⟩
    rw [ne_self]
    refine iteF ?_
    -- never == to a list or a tuple
    have hLG := sG _ _ hLF
    have hxG := sG _ _ (sF _ _ hxE)
    have sxG := sxE.same (sF.trans sG)
    refine ⟨_, rfl, _, rfl, x, dxE, _, rfl, hxG, .lst (SqL.mk hLG) T.nL, x, .ref L, ts, rfl, sxG, .inr ⟨L, _, rfl, .inl (SqL.mk hLG), _, rfl, _, rfl, iteF ?_⟩⟩
    refine ⟨_, rfl, _, rfl, L, vs, rfl, .inl ⟨SqL.mk hLG, fun c1 m3 => ?_⟩⟩
    have sH := same_new (o := .tup vs) m3
    have hT : SqT K (upd HG c1 (.tup vs)) c1 vs := SqT.mk upd_same
    have wH := wG.pure sH
    revert sH wH hT
    generalize upd HG c1 (.tup vs) = HH
    intro sH hT wH
    refine ⟨x, dxE, _, rfl, sH _ _ hxG, .tup hT T.nT, x, .ref c1, ts, rfl, sxG.same sH, .inr ⟨c1, _, rfl, .inr hT, _, rfl, _, rfl, iteF ?_⟩⟩
    have sxH := sxG.same sH
    have syH := spE.same ((sF.trans sG).trans sH)
    -- the same points
    refine ⟨_, rfl, _, rfl, x, y, ts, us2, rfl, sxH, syH, g, gu, fun HI b3 sI hb3 => ?_⟩
    obtain rfl : b3 = true := hb3.mpr pm.symm
    refine ⟨_, _, rfl, rfl, _, rfl, iteF ?_⟩
    refine ⟨_, rfl, _, rfl, rfl, y, x, us2, ts, rfl, syH.same sI, sxH.same sI, gu, g, fun HJ b4 sJ hb4 => ?_⟩
    obtain rfl : b4 = true := hb4.mpr pm
    refine ⟨_, _, rfl, rfl, _, rfl, iteF ?_⟩
    have wJ := (wH.pure sI).pure sJ
    have sxJ := (sxH.same sI).same sJ
    have syJ := (syH.same sI).same sJ
    have hLJ := wJ.s _ _ (sDC _ _ hL3)
    refine ⟨_, rfl, _, rfl, fun z dz nz ndz _ => made_told (SqL.mk hLJ) (DpAll.same (sDC.trans wJ.s) hd3) g nz ndz fun HK sK spK => ⟨rfl, ?_⟩⟩
    have wK := wJ.pure sK
    have sxK := sxJ.same sK
    have syK := syJ.same sK
    obtain ⟨dxK, lxK, vxK, hxK, _, _⟩ := id sxK
    obtain ⟨dzK, lzK, vzK, hzK, _, _⟩ := id spK
    refine ⟨x, dxK, _, rfl, hxK, .own hzK, x, .ref z, ts, rfl, sxK, .inl ⟨z, ts, rfl, spK, _, rfl, _, rfl, ?_⟩⟩
    rw [decide_eq_true rfl]
    refine iteF ?_
    -- the parts
    obtain ⟨wL, sL⟩ := wK.all
    refine ⟨_, rfl, _, rfl, _, rfl, _, rfl, p, x, y, _, _, ts, us2, rfl, wL, spots_del wK g.one sxK, tl (sDC.trans sL), g, l12, spots_del wK gu.one syK, gu, pm, fun H' w' => q H' ?_⟩
    exact ⟨(s2.trans s3).trans ((sDC.trans sL).trans w'.s), wd.n, w'.pot⟩
end
end G0

namespace G0
open PySem PySem.Spec PyProof.Rows L2
section
variable {P : Program} {w : World} {K : PySem.W.Frag} {mg : Str → Option Value} {base : Heap}
def sp_law (K : PySem.W.Frag) : Sp := fun vs H Q _ => ∃ (l : Addr) (ns : List Int), vs = [.ref l] ∧ SqL K H l (ns.map V.int) ∧ ns.length ≤ 63 ∧ ∀ H', Q (.bl true) H'
theorem sc_law : FnScope ["_law_script"] ["_law_script"] (defScope s_law) := ⟨rfl, rfl, rfl, by decide +kernel, rfl, by decide +kernel, by decide +kernel⟩
theorem ok_law {f f1 f2 : Addr} {fd fd1 fd2 : FuncData} (F : Fun K "law" "law" s_law f fd) (B : Blt mg) (D1 : Df K mg "_law_pot" s_pot ["_law_script", "_law_k"] f1 fd1) (D2 : Df K mg "_law_right" s_right ["_law_pot_here"] f2 fd2) (G2 : FnG P w K mg base 9 f2 fd2 ["_law_pot_here"] sp_right) : FnG P w K mg base 10 f fd ["_law_script"] (sp_law K) := by
  have G1 : FnOk P w K mg base CX0 1 f1 fd1 ["_law_script", "_law_k"] (sp_pot K) := ok_pot D1.F B
  refine F.okG sc_law (fun vs H Q E h => ?_) (fun cdv A outer s H vs Q E gd hr h => ?_)
  · obtain ⟨l, ns, rfl, _⟩ := h
    rfl
  · obtain ⟨l, ns, rfl, hs, hn, q⟩ := h
    have r1 : Room 1 _ := hr.mono (by decide)
    refine ⟨_, pss_one (ps_ret (pe_callG (E := E0) G2 gd hr (by rfl) D2.g D2.F.kp D2.b .nil (pa_cons (pdf D1 G1 r1 (pa_cons (pv 0) (pa_cons pe_int pa_nil))) pa_nil))), ?_⟩
    refine ⟨_, rfl, l, ns, 0, rfl, hs, hn, by omega, fun H2 p D s2 sD w2 => ?_⟩
    exact ⟨p, D, rfl, w2, fun H3 w3 => q _⟩
end
end G0

namespace G0
open PySem PySem.Spec PyProof.Rows L2
theorem obj_eq : ∃ y, typeLookup (.type "object") "__eq__" = pure y := ⟨_, rfl⟩
theorem kit_no {K : PySem.W.Frag} {C : Addr} {T : String} {cd : ClassData} (h1 : PySem.W.clsIn K C = some cd) (h2 : PySem.W.typeIn K (.ref C) = some (.type "type")) (h3 : PySem.W.subIn K (.type T) (.ref C) = some false) : PySem.W.kitOne K (.type T) (.ref C) = some false := by
  unfold PySem.W.kitOne
  rw [if_neg (by intro e; simp at e)]
  unfold PySem.W.kitCls
  simp only [h1, h2, h3]
  rfl
theorem ns_ok {K : PySem.W.Frag} {N : Addr} {oN : Value} {dN : Option Addr} {es : Array DictEntry} {nN : Nat} {sl : Array (Option Value)} (h : K.lookup N = some ⟨oN, dN, .dict es nN, sl⟩) (q : (es.toList.all fun e => match e.key with | .str _ _ => true | _ => false) = true) : PySem.W.nsOkIn K N = true := by
  unfold PySem.W.nsOkIn
  rw [h]
  exact Array.all_toList.symm.trans q
theorem ne_mk {K : PySem.W.Frag} {C f N : Addr} {nm q : Str} {bs : List Value} {sn : List Str} {sub : List Value} {ab : Bool} {col : Option Bool} {dd : Option Addr} {k0 k1 k2 k3 k5 : Option Value} {newId : String} {oN : Value} {dN : Option Addr} {es : Array DictEntry} {nN : Nat} {sl : Array (Option Value)} {of : Obj}
    (h1 : K.lookup C = some (excClassObj nm q C N bs [.type "object"] true sn sub ab col dd k0 k1 k2 k3 k5 newId)) (h2 : K.lookup N = some ⟨oN, dN, .dict es nN, sl⟩) (h3 : (es.toList.all fun e => match e.key with | .str _ _ => true | _ => false) = true) (h4 : PySem.W.nsIn K N "__eq__" = some (some (.ref f))) (h5 : PySem.W.nsIn K N "__ne__" = some none)
    (h6 : K.lookup f = some of) (h7 : PySem.W.isFn K (.ref f) = true) : NeOwn K C f := by
  obtain ⟨y, hy⟩ := obj_eq
  refine ⟨of, nm, q, N, bs, sn, sub, ab, col, dd, k0, k1, k2, k3, k5, newId, y, h1, ns_ok h2 h3, h4, h5, h6, ?_, hy⟩
  have e := beq_iff_eq.mp h7
  unfold PySem.W.typeIn at e
  simp only [h6] at e
  simpa using e
theorem vals_rev : ∀ {vs : List V} {us : List Value}, Vals vs us → Vals vs.reverse us.reverse
  | _, _, .nil => .nil
  | _, _, .cons h t => by
    rw [List.reverse_cons, List.reverse_cons]
    exact (vals_rev t).append (.cons h .nil)
theorem kb_sw {K : PySem.W.Frag} {x qual : Str} {st : Stmt} {f : Addr} {fd : FuncData} {ps ks : List Str} {n : Nat} (F : Fun K x qual st f fd)
    (h : ∀ (kV doc pm : Value) (an : Option Addr) (cdv ct : Value) (us ws : List Value), us.length = n → ws.length = ks.length → bindArgs (PySem.W.fnOf x qual (defArgs st) (defBody st) (defScope st) .none kV doc pm an cdv ct) ⟨us, ks.zip ws⟩ = pure (ps.zip (us ++ ws.reverse))) : KBn K fd ps n ks (fun us ws => us ++ ws.reverse) (fun vs zs => vs ++ zs.reverse) := by
  obtain ⟨oc, od, kV, doc, pm, an, cdv, ct, osl, rfl, _, _⟩ := F.ex
  exact ⟨fun s us ws _ l1 l2 => .of_eq (h kV doc pm an cdv ct us ws l1 l2), fun r1 r2 => r1.append (vals_rev r2)⟩
/-! ### what the top has written; the head -/
theorem all_mk {l : PySem.W.OpenLaw} {w : World} {K : PySem.W.Frag} {h : Heap} {mg : Str → Option Value} {fa f_isint f_iscount f_islist f_divisor f_plain f_isthree f_checkpos f_ispoint f_tp f_checkspots f_same f_pot f_draw f_pick f_common f_told f_point f_given f_spots f_handed f_mixed f_shows f_parts f_right f_law C_S f_init f_pts f_pl f_wo f_wi f_eq f_rp : Addr} (X : K.In h) (G : h.Ns mainGlobals mg) (hfa : mg "law" = some (.ref fa))
    {od_isint an_isint : Option Addr} {sl_isint : Array (Option Value)} {oc_isint kV_isint dc_isint pm_isint cd_isint ct_isint : Value}
    {od_iscount an_iscount : Option Addr} {sl_iscount : Array (Option Value)} {oc_iscount kV_iscount dc_iscount pm_iscount cd_iscount ct_iscount : Value}
    {od_islist an_islist : Option Addr} {sl_islist : Array (Option Value)} {oc_islist kV_islist dc_islist pm_islist cd_islist ct_islist : Value}
    {od_divisor an_divisor : Option Addr} {sl_divisor : Array (Option Value)} {oc_divisor kV_divisor dc_divisor pm_divisor cd_divisor ct_divisor : Value}
    {od_plain an_plain : Option Addr} {sl_plain : Array (Option Value)} {oc_plain kV_plain dc_plain pm_plain cd_plain ct_plain : Value}
    {od_isthree an_isthree : Option Addr} {sl_isthree : Array (Option Value)} {oc_isthree kV_isthree dc_isthree pm_isthree cd_isthree ct_isthree : Value}
    {od_checkpos an_checkpos : Option Addr} {sl_checkpos : Array (Option Value)} {oc_checkpos kV_checkpos dc_checkpos pm_checkpos cd_checkpos ct_checkpos : Value}
    {od_ispoint an_ispoint : Option Addr} {sl_ispoint : Array (Option Value)} {oc_ispoint kV_ispoint dc_ispoint pm_ispoint cd_ispoint ct_ispoint : Value}
    {od_tp an_tp : Option Addr} {sl_tp : Array (Option Value)} {oc_tp kV_tp dc_tp pm_tp cd_tp ct_tp : Value}
    {od_checkspots an_checkspots : Option Addr} {sl_checkspots : Array (Option Value)} {oc_checkspots kV_checkspots dc_checkspots pm_checkspots cd_checkspots ct_checkspots : Value}
    {od_same an_same : Option Addr} {sl_same : Array (Option Value)} {oc_same kV_same dc_same pm_same cd_same ct_same : Value}
    {od_pot an_pot : Option Addr} {sl_pot : Array (Option Value)} {oc_pot kV_pot dc_pot pm_pot cd_pot ct_pot : Value}
    {od_draw an_draw : Option Addr} {sl_draw : Array (Option Value)} {oc_draw kV_draw dc_draw pm_draw cd_draw ct_draw : Value}
    {od_pick an_pick : Option Addr} {sl_pick : Array (Option Value)} {oc_pick kV_pick dc_pick pm_pick cd_pick ct_pick : Value}
    {od_common an_common : Option Addr} {sl_common : Array (Option Value)} {oc_common kV_common dc_common pm_common cd_common ct_common : Value}
    {od_told an_told : Option Addr} {sl_told : Array (Option Value)} {oc_told kV_told dc_told pm_told cd_told ct_told : Value}
    {od_point an_point : Option Addr} {sl_point : Array (Option Value)} {oc_point kV_point dc_point pm_point cd_point ct_point : Value}
    {od_given an_given : Option Addr} {sl_given : Array (Option Value)} {oc_given kV_given dc_given pm_given cd_given ct_given : Value}
    {od_spots an_spots : Option Addr} {sl_spots : Array (Option Value)} {oc_spots kV_spots dc_spots pm_spots cd_spots ct_spots : Value}
    {od_handed an_handed : Option Addr} {sl_handed : Array (Option Value)} {oc_handed kV_handed dc_handed pm_handed cd_handed ct_handed : Value}
    {od_mixed an_mixed : Option Addr} {sl_mixed : Array (Option Value)} {oc_mixed kV_mixed dc_mixed pm_mixed cd_mixed ct_mixed : Value}
    {od_shows an_shows : Option Addr} {sl_shows : Array (Option Value)} {oc_shows kV_shows dc_shows pm_shows cd_shows ct_shows : Value}
    {od_parts an_parts : Option Addr} {sl_parts : Array (Option Value)} {oc_parts kV_parts dc_parts pm_parts cd_parts ct_parts : Value}
    {od_right an_right : Option Addr} {sl_right : Array (Option Value)} {oc_right kV_right dc_right pm_right cd_right ct_right : Value}
    {od_law an_law : Option Addr} {sl_law : Array (Option Value)} {oc_law kV_law dc_law pm_law cd_law ct_law : Value}
    {od_init an_init : Option Addr} {sl_init : Array (Option Value)} {oc_init kV_init dc_init pm_init cd_init ct_init : Value}
    {od_pts an_pts : Option Addr} {sl_pts : Array (Option Value)} {oc_pts kV_pts dc_pts pm_pts cd_pts ct_pts : Value}
    {od_pl an_pl : Option Addr} {sl_pl : Array (Option Value)} {oc_pl kV_pl dc_pl pm_pl cd_pl ct_pl : Value}
    {od_wo an_wo : Option Addr} {sl_wo : Array (Option Value)} {oc_wo kV_wo dc_wo pm_wo cd_wo ct_wo : Value}
    {od_wi an_wi : Option Addr} {sl_wi : Array (Option Value)} {oc_wi kV_wi dc_wi pm_wi cd_wi ct_wi : Value}
    {od_eq an_eq : Option Addr} {sl_eq : Array (Option Value)} {oc_eq kV_eq dc_eq pm_eq cd_eq ct_eq : Value}
    {od_rp an_rp : Option Addr} {sl_rp : Array (Option Value)} {oc_rp kV_rp dc_rp pm_rp cd_rp ct_rp : Value}
    {t24 : Tok}
    {p_size f_size : Addr} {rest_size : List Value} {od_size an_size : Option Addr} {sl_size : Array (Option Value)} {oc_size kV_size dc_size pm_size cd_size ct_size : Value}
    {nmS qS : Str} {N_S : Addr} {bsS : List Value} {snS : List Str} {subS : List Value} {abS : Bool} {colS : Option Bool} {ddS : Option Addr} {k0 k1 k2 k3 k5 : Option Value} {newIdS : String} {oN : Value} {dN : Option Addr} {esN : Array DictEntry} {nN : Nat} {slN : Array (Option Value)} {cdS : ClassData}
    (a_isint : PySem.W.nsIn K mainGlobals "is_integer" = some (some (.ref f_isint)))
    (l_isint : K.lookup f_isint = some ⟨oc_isint, od_isint, .func (PySem.W.fnOf "is_integer" "is_integer" (defArgs s_is_integer) (defBody s_is_integer) (defScope s_is_integer) .none kV_isint dc_isint pm_isint an_isint cd_isint ct_isint), sl_isint⟩) (c_isint : PySem.W.codeIn K cd_isint "is_integer" = true) (k_isint : PySem.W.keepIn K (.ref f_isint) = true)
    (a_iscount : PySem.W.nsIn K mainGlobals "is_count" = some (some (.ref f_iscount)))
    (l_iscount : K.lookup f_iscount = some ⟨oc_iscount, od_iscount, .func (PySem.W.fnOf "is_count" "is_count" (defArgs s_is_count) (defBody s_is_count) (defScope s_is_count) .none kV_iscount dc_iscount pm_iscount an_iscount cd_iscount ct_iscount), sl_iscount⟩) (c_iscount : PySem.W.codeIn K cd_iscount "is_count" = true) (k_iscount : PySem.W.keepIn K (.ref f_iscount) = true)
    (a_islist : PySem.W.nsIn K mainGlobals "is_list" = some (some (.ref f_islist)))
    (l_islist : K.lookup f_islist = some ⟨oc_islist, od_islist, .func (PySem.W.fnOf "is_list" "is_list" (defArgs s_is_list) (defBody s_is_list) (defScope s_is_list) .none kV_islist dc_islist pm_islist an_islist cd_islist ct_islist), sl_islist⟩) (c_islist : PySem.W.codeIn K cd_islist "is_list" = true) (k_islist : PySem.W.keepIn K (.ref f_islist) = true)
    (a_divisor : PySem.W.nsIn K mainGlobals "divisor" = some (some (.ref f_divisor)))
    (l_divisor : K.lookup f_divisor = some ⟨oc_divisor, od_divisor, .func (PySem.W.fnOf "divisor" "divisor" (defArgs s_divisor) (defBody s_divisor) (defScope s_divisor) .none kV_divisor dc_divisor pm_divisor an_divisor cd_divisor ct_divisor), sl_divisor⟩) (c_divisor : PySem.W.codeIn K cd_divisor "divisor" = true) (k_divisor : PySem.W.keepIn K (.ref f_divisor) = true)
    (a_plain : PySem.W.nsIn K mainGlobals "plain" = some (some (.ref f_plain)))
    (l_plain : K.lookup f_plain = some ⟨oc_plain, od_plain, .func (PySem.W.fnOf "plain" "plain" (defArgs s_plain) (defBody s_plain) (defScope s_plain) .none kV_plain dc_plain pm_plain an_plain cd_plain ct_plain), sl_plain⟩) (c_plain : PySem.W.codeIn K cd_plain "plain" = true) (k_plain : PySem.W.keepIn K (.ref f_plain) = true)
    (a_isthree : PySem.W.nsIn K mainGlobals "is_three" = some (some (.ref f_isthree)))
    (l_isthree : K.lookup f_isthree = some ⟨oc_isthree, od_isthree, .func (PySem.W.fnOf "is_three" "is_three" (defArgs s_is_three) (defBody s_is_three) (defScope s_is_three) .none kV_isthree dc_isthree pm_isthree an_isthree cd_isthree ct_isthree), sl_isthree⟩) (c_isthree : PySem.W.codeIn K cd_isthree "is_three" = true) (k_isthree : PySem.W.keepIn K (.ref f_isthree) = true)
    (a_checkpos : PySem.W.nsIn K mainGlobals "check_position" = some (some (.ref f_checkpos)))
    (l_checkpos : K.lookup f_checkpos = some ⟨oc_checkpos, od_checkpos, .func (PySem.W.fnOf "check_position" "check_position" (defArgs s_check_position) (defBody s_check_position) (defScope s_check_position) .none kV_checkpos dc_checkpos pm_checkpos an_checkpos cd_checkpos ct_checkpos), sl_checkpos⟩) (c_checkpos : PySem.W.codeIn K cd_checkpos "check_position" = true) (k_checkpos : PySem.W.keepIn K (.ref f_checkpos) = true)
    (a_ispoint : PySem.W.nsIn K mainGlobals "is_point" = some (some (.ref f_ispoint)))
    (l_ispoint : K.lookup f_ispoint = some ⟨oc_ispoint, od_ispoint, .func (PySem.W.fnOf "is_point" "is_point" (defArgs s_is_point) (defBody s_is_point) (defScope s_is_point) .none kV_ispoint dc_ispoint pm_ispoint an_ispoint cd_ispoint ct_ispoint), sl_ispoint⟩) (c_ispoint : PySem.W.codeIn K cd_ispoint "is_point" = true) (k_ispoint : PySem.W.keepIn K (.ref f_ispoint) = true)
    (a_tp : PySem.W.nsIn K mainGlobals "told_point" = some (some (.ref f_tp)))
    (l_tp : K.lookup f_tp = some ⟨oc_tp, od_tp, .func (PySem.W.fnOf "told_point" "told_point" (defArgs s_told_point) (defBody s_told_point) (defScope s_told_point) .none kV_tp dc_tp pm_tp an_tp cd_tp ct_tp), sl_tp⟩) (c_tp : PySem.W.codeIn K cd_tp "told_point" = true) (k_tp : PySem.W.keepIn K (.ref f_tp) = true)
    (a_checkspots : PySem.W.nsIn K mainGlobals "check_spots" = some (some (.ref f_checkspots)))
    (l_checkspots : K.lookup f_checkspots = some ⟨oc_checkspots, od_checkspots, .func (PySem.W.fnOf "check_spots" "check_spots" (defArgs s_check_spots) (defBody s_check_spots) (defScope s_check_spots) .none kV_checkspots dc_checkspots pm_checkspots an_checkspots cd_checkspots ct_checkspots), sl_checkspots⟩) (c_checkspots : PySem.W.codeIn K cd_checkspots "check_spots" = true) (k_checkspots : PySem.W.keepIn K (.ref f_checkspots) = true)
    (a_same : PySem.W.nsIn K mainGlobals "same_points" = some (some (.ref f_same)))
    (l_same : K.lookup f_same = some ⟨oc_same, od_same, .func (PySem.W.fnOf "same_points" "same_points" (defArgs s_same_points) (defBody s_same_points) (defScope s_same_points) .none kV_same dc_same pm_same an_same cd_same ct_same), sl_same⟩) (c_same : PySem.W.codeIn K cd_same "same_points" = true) (k_same : PySem.W.keepIn K (.ref f_same) = true)
    (a_pot : PySem.W.nsIn K mainGlobals "_law_pot" = some (some (.ref f_pot)))
    (l_pot : K.lookup f_pot = some ⟨oc_pot, od_pot, .func (PySem.W.fnOf "_law_pot" "_law_pot" (defArgs s_pot) (defBody s_pot) (defScope s_pot) .none kV_pot dc_pot pm_pot an_pot cd_pot ct_pot), sl_pot⟩) (c_pot : PySem.W.codeIn K cd_pot "_law_pot" = true) (k_pot : PySem.W.keepIn K (.ref f_pot) = true)
    (a_draw : PySem.W.nsIn K mainGlobals "_law_draw" = some (some (.ref f_draw)))
    (l_draw : K.lookup f_draw = some ⟨oc_draw, od_draw, .func (PySem.W.fnOf "_law_draw" "_law_draw" (defArgs s_draw) (defBody s_draw) (defScope s_draw) .none kV_draw dc_draw pm_draw an_draw cd_draw ct_draw), sl_draw⟩) (c_draw : PySem.W.codeIn K cd_draw "_law_draw" = true) (k_draw : PySem.W.keepIn K (.ref f_draw) = true)
    (a_pick : PySem.W.nsIn K mainGlobals "_law_pick" = some (some (.ref f_pick)))
    (l_pick : K.lookup f_pick = some ⟨oc_pick, od_pick, .func (PySem.W.fnOf "_law_pick" "_law_pick" (defArgs s_pick) (defBody s_pick) (defScope s_pick) .none kV_pick dc_pick pm_pick an_pick cd_pick ct_pick), sl_pick⟩) (c_pick : PySem.W.codeIn K cd_pick "_law_pick" = true) (k_pick : PySem.W.keepIn K (.ref f_pick) = true)
    (a_common : PySem.W.nsIn K mainGlobals "_law_common" = some (some (.ref f_common)))
    (l_common : K.lookup f_common = some ⟨oc_common, od_common, .func (PySem.W.fnOf "_law_common" "_law_common" (defArgs s_common) (defBody s_common) (defScope s_common) .none kV_common dc_common pm_common an_common cd_common ct_common), sl_common⟩) (c_common : PySem.W.codeIn K cd_common "_law_common" = true) (k_common : PySem.W.keepIn K (.ref f_common) = true)
    (a_told : PySem.W.nsIn K mainGlobals "_law_told" = some (some (.ref f_told)))
    (l_told : K.lookup f_told = some ⟨oc_told, od_told, .func (PySem.W.fnOf "_law_told" "_law_told" (defArgs s_told) (defBody s_told) (defScope s_told) .none kV_told dc_told pm_told an_told cd_told ct_told), sl_told⟩) (c_told : PySem.W.codeIn K cd_told "_law_told" = true) (k_told : PySem.W.keepIn K (.ref f_told) = true)
    (a_point : PySem.W.nsIn K mainGlobals "_law_point" = some (some (.ref f_point)))
    (l_point : K.lookup f_point = some ⟨oc_point, od_point, .func (PySem.W.fnOf "_law_point" "_law_point" (defArgs s_point) (defBody s_point) (defScope s_point) .none kV_point dc_point pm_point an_point cd_point ct_point), sl_point⟩) (c_point : PySem.W.codeIn K cd_point "_law_point" = true) (k_point : PySem.W.keepIn K (.ref f_point) = true)
    (a_given : PySem.W.nsIn K mainGlobals "_law_given" = some (some (.ref f_given)))
    (l_given : K.lookup f_given = some ⟨oc_given, od_given, .func (PySem.W.fnOf "_law_given" "_law_given" (defArgs s_given) (defBody s_given) (defScope s_given) .none kV_given dc_given pm_given an_given cd_given ct_given), sl_given⟩) (c_given : PySem.W.codeIn K cd_given "_law_given" = true) (k_given : PySem.W.keepIn K (.ref f_given) = true)
    (a_spots : PySem.W.nsIn K mainGlobals "_law_spots" = some (some (.ref f_spots)))
    (l_spots : K.lookup f_spots = some ⟨oc_spots, od_spots, .func (PySem.W.fnOf "_law_spots" "_law_spots" (defArgs s_law_spots) (defBody s_law_spots) (defScope s_law_spots) .none kV_spots dc_spots pm_spots an_spots cd_spots ct_spots), sl_spots⟩) (c_spots : PySem.W.codeIn K cd_spots "_law_spots" = true) (k_spots : PySem.W.keepIn K (.ref f_spots) = true)
    (a_handed : PySem.W.nsIn K mainGlobals "_law_handed" = some (some (.ref f_handed)))
    (l_handed : K.lookup f_handed = some ⟨oc_handed, od_handed, .func (PySem.W.fnOf "_law_handed" "_law_handed" (defArgs s_law_handed) (defBody s_law_handed) (defScope s_law_handed) .none kV_handed dc_handed pm_handed an_handed cd_handed ct_handed), sl_handed⟩) (c_handed : PySem.W.codeIn K cd_handed "_law_handed" = true) (k_handed : PySem.W.keepIn K (.ref f_handed) = true)
    (a_mixed : PySem.W.nsIn K mainGlobals "_law_mixed" = some (some (.ref f_mixed)))
    (l_mixed : K.lookup f_mixed = some ⟨oc_mixed, od_mixed, .func (PySem.W.fnOf "_law_mixed" "_law_mixed" (defArgs s_law_mixed) (defBody s_law_mixed) (defScope s_law_mixed) .none kV_mixed dc_mixed pm_mixed an_mixed cd_mixed ct_mixed), sl_mixed⟩) (c_mixed : PySem.W.codeIn K cd_mixed "_law_mixed" = true) (k_mixed : PySem.W.keepIn K (.ref f_mixed) = true)
    (a_shows : PySem.W.nsIn K mainGlobals "_law_shows" = some (some (.ref f_shows)))
    (l_shows : K.lookup f_shows = some ⟨oc_shows, od_shows, .func (PySem.W.fnOf "_law_shows" "_law_shows" (defArgs s_law_shows) (defBody s_law_shows) (defScope s_law_shows) .none kV_shows dc_shows pm_shows an_shows cd_shows ct_shows), sl_shows⟩) (c_shows : PySem.W.codeIn K cd_shows "_law_shows" = true) (k_shows : PySem.W.keepIn K (.ref f_shows) = true)
    (a_parts : PySem.W.nsIn K mainGlobals "_law_parts_right" = some (some (.ref f_parts)))
    (l_parts : K.lookup f_parts = some ⟨oc_parts, od_parts, .func (PySem.W.fnOf "_law_parts_right" "_law_parts_right" (defArgs s_parts) (defBody s_parts) (defScope s_parts) .none kV_parts dc_parts pm_parts an_parts cd_parts ct_parts), sl_parts⟩) (c_parts : PySem.W.codeIn K cd_parts "_law_parts_right" = true) (k_parts : PySem.W.keepIn K (.ref f_parts) = true)
    (a_right : PySem.W.nsIn K mainGlobals "_law_right" = some (some (.ref f_right)))
    (l_right : K.lookup f_right = some ⟨oc_right, od_right, .func (PySem.W.fnOf "_law_right" "_law_right" (defArgs s_right) (defBody s_right) (defScope s_right) .none kV_right dc_right pm_right an_right cd_right ct_right), sl_right⟩) (c_right : PySem.W.codeIn K cd_right "_law_right" = true) (k_right : PySem.W.keepIn K (.ref f_right) = true)
    (a_law : PySem.W.nsIn K mainGlobals "law" = some (some (.ref f_law)))
    (l_law : K.lookup f_law = some ⟨oc_law, od_law, .func (PySem.W.fnOf "law" "law" (defArgs s_law) (defBody s_law) (defScope s_law) .none kV_law dc_law pm_law an_law cd_law ct_law), sl_law⟩) (c_law : PySem.W.codeIn K cd_law "law" = true) (k_law : PySem.W.keepIn K (.ref f_law) = true)
    (a_S : PySem.W.nsIn K mainGlobals "Spots" = some (some (.ref C_S)))
    (a_init : PySem.W.findIn K (.ref C_S) "__init__" = some (some (.ref f_init))) (i_init : PySem.W.isFn K (.ref f_init) = true)
    (l_init : K.lookup f_init = some ⟨oc_init, od_init, .func (PySem.W.fnOf "__init__" "Spots.__init__" (defArgs s_Spots_init) (defBody s_Spots_init) (defScope s_Spots_init) .none kV_init dc_init pm_init an_init cd_init ct_init), sl_init⟩) (c_init : PySem.W.codeIn K cd_init "Spots.__init__" = true) (k_init : PySem.W.keepIn K (.ref f_init) = true)
    (a_pts : PySem.W.findIn K (.ref C_S) "points" = some (some (.ref f_pts))) (i_pts : PySem.W.isFn K (.ref f_pts) = true)
    (l_pts : K.lookup f_pts = some ⟨oc_pts, od_pts, .func (PySem.W.fnOf "points" "Spots.points" (defArgs s_Spots_points) (defBody s_Spots_points) (defScope s_Spots_points) .none kV_pts dc_pts pm_pts an_pts cd_pts ct_pts), sl_pts⟩) (c_pts : PySem.W.codeIn K cd_pts "Spots.points" = true) (k_pts : PySem.W.keepIn K (.ref f_pts) = true)
    (a_pl : PySem.W.findIn K (.ref C_S) "place" = some (some (.ref f_pl))) (i_pl : PySem.W.isFn K (.ref f_pl) = true)
    (l_pl : K.lookup f_pl = some ⟨oc_pl, od_pl, .func (PySem.W.fnOf "place" "Spots.place" (defArgs s_Spots_place) (defBody s_Spots_place) (defScope s_Spots_place) .none kV_pl dc_pl pm_pl an_pl cd_pl ct_pl), sl_pl⟩) (c_pl : PySem.W.codeIn K cd_pl "Spots.place" = true) (k_pl : PySem.W.keepIn K (.ref f_pl) = true)
    (a_wo : PySem.W.findIn K (.ref C_S) "without" = some (some (.ref f_wo))) (i_wo : PySem.W.isFn K (.ref f_wo) = true)
    (l_wo : K.lookup f_wo = some ⟨oc_wo, od_wo, .func (PySem.W.fnOf "without" "Spots.without" (defArgs s_Spots_without) (defBody s_Spots_without) (defScope s_Spots_without) .none kV_wo dc_wo pm_wo an_wo cd_wo ct_wo), sl_wo⟩) (c_wo : PySem.W.codeIn K cd_wo "Spots.without" = true) (k_wo : PySem.W.keepIn K (.ref f_wo) = true)
    (a_wi : PySem.W.findIn K (.ref C_S) "with_point" = some (some (.ref f_wi))) (i_wi : PySem.W.isFn K (.ref f_wi) = true)
    (l_wi : K.lookup f_wi = some ⟨oc_wi, od_wi, .func (PySem.W.fnOf "with_point" "Spots.with_point" (defArgs s_Spots_with_point) (defBody s_Spots_with_point) (defScope s_Spots_with_point) .none kV_wi dc_wi pm_wi an_wi cd_wi ct_wi), sl_wi⟩) (c_wi : PySem.W.codeIn K cd_wi "Spots.with_point" = true) (k_wi : PySem.W.keepIn K (.ref f_wi) = true)
    (a_eq : PySem.W.findIn K (.ref C_S) "__eq__" = some (some (.ref f_eq))) (i_eq : PySem.W.isFn K (.ref f_eq) = true)
    (l_eq : K.lookup f_eq = some ⟨oc_eq, od_eq, .func (PySem.W.fnOf "__eq__" "Spots.__eq__" (defArgs s_Spots_eq) (defBody s_Spots_eq) (defScope s_Spots_eq) .none kV_eq dc_eq pm_eq an_eq cd_eq ct_eq), sl_eq⟩) (c_eq : PySem.W.codeIn K cd_eq "Spots.__eq__" = true) (k_eq : PySem.W.keepIn K (.ref f_eq) = true)
    (a_rp : PySem.W.findIn K (.ref C_S) "__repr__" = some (some (.ref f_rp))) (i_rp : PySem.W.isFn K (.ref f_rp) = true)
    (l_rp : K.lookup f_rp = some ⟨oc_rp, od_rp, .func (PySem.W.fnOf "__repr__" "Spots.__repr__" (defArgs s_Spots_repr) (defBody s_Spots_repr) (defScope s_Spots_repr) .none kV_rp dc_rp pm_rp an_rp cd_rp ct_rp), sl_rp⟩) (c_rp : PySem.W.codeIn K cd_rp "Spots.__repr__" = true) (k_rp : PySem.W.keepIn K (.ref f_rp) = true)
    (pg_S : PySem.W.plainGet K C_S Str.empty = true) (hd_S : PySem.W.hasDictIn K C_S = true) (po_S : PySem.W.plainOver K C_S = true) (sa_S : PySem.W.findIn K (.ref C_S) "__setattr__" = some (some (.builtin "object.__setattr__"))) (mk_S : PySem.W.makesIn K C_S = true) (kc_S : PySem.W.keepIn K (.ref C_S) = true)
    (n_S_points : PySem.W.findIn K (.ref C_S) "_points" = some none)
    (v_most : PySem.W.nsIn K mainGlobals "MOST_POINTS" = some (some (.int 24 t24)))
    (v_gcd : PySem.W.nsIn K mainGlobals "gcd" = some (some (.builtin "math.gcd")))
    (z_isinstance : PySem.W.nsIn K mainGlobals "isinstance" = some none)
    (z_int : PySem.W.nsIn K mainGlobals "int" = some none)
    (z_bool : PySem.W.nsIn K mainGlobals "bool" = some none)
    (z_list : PySem.W.nsIn K mainGlobals "list" = some none)
    (z_tuple : PySem.W.nsIn K mainGlobals "tuple" = some none)
    (z_len : PySem.W.nsIn K mainGlobals "len" = some none)
    (z_all : PySem.W.nsIn K mainGlobals "all" = some none)
    (z_any : PySem.W.nsIn K mainGlobals "any" = some none)
    (z_abs : PySem.W.nsIn K mainGlobals "abs" = some none)
    (z_max : PySem.W.nsIn K mainGlobals "max" = some none)
    (z_min : PySem.W.nsIn K mainGlobals "min" = some none)
    (z_divmod : PySem.W.nsIn K mainGlobals "divmod" = some none)
    (z_range : PySem.W.nsIn K mainGlobals "range" = some none)
    (z_repr : PySem.W.nsIn K mainGlobals "repr" = some none)
    (z_enumerate : PySem.W.nsIn K mainGlobals "enumerate" = some none)
    (z_sorted : PySem.W.nsIn K mainGlobals "sorted" = some none)
    (a_size : PySem.W.findIn K (.ref C_S) "size" = some (some (.ref p_size)))
    (g_size : PySem.W.specialIn K (.ref p_size) "__get__" = some (some (.builtin "property.__get__")))
    (t_size : PySem.W.takesIn K (.ref p_size) = some true)
    (r_size : PySem.W.recIn K p_size "property" = some (.ref f_size :: rest_size))
    (l_size : K.lookup f_size = some ⟨oc_size, od_size, .func (PySem.W.fnOf "size" "Spots.size" (defArgs s_Spots_size) (defBody s_Spots_size) (defScope s_Spots_size) .none kV_size dc_size pm_size an_size cd_size ct_size), sl_size⟩)
    (c_size : PySem.W.codeIn K cd_size "Spots.size" = true)
    (k_size : PySem.W.keepIn K (.ref f_size) = true)
    (x_ha : PySem.W.findIn K (.ref C_S) "__class__" = some (some (.builtin "object.__class__")))
    (x_hn : PySem.W.specialIn K (.builtin "object.__class__") "__get__" = some (some (.builtin "getset_descriptor.__get__")))
    (x_htk : PySem.W.takesIn K (.builtin "object.__class__") = some true)
    (x_hm : PySem.W.mroIn K C_S (.type "object") = some true)
    (x_cl : PySem.W.clsIn K C_S = some cdS)
    (x_ty : PySem.W.typeIn K (.ref C_S) = some (.type "type"))
    (x_sl : PySem.W.subIn K (.type "list") (.ref C_S) = some false)
    (x_st : PySem.W.subIn K (.type "tuple") (.ref C_S) = some false)
    (x_nl : PySem.W.notFirst K C_S (.type "list") = true)
    (x_nt : PySem.W.notFirst K C_S (.type "tuple") = true)
    (l_S : K.lookup C_S = some (excClassObj nmS qS C_S N_S bsS [.type "object"] true snS subS abS colS ddS k0 k1 k2 k3 k5 newIdS))
    (l_NS : K.lookup N_S = some ⟨oN, dN, .dict esN nN, slN⟩)
    (q_NS : (esN.toList.all fun e => match e.key with | .str _ _ => true | _ => false) = true)
    (e_eq : PySem.W.nsIn K N_S "__eq__" = some (some (.ref f_eq)))
    (e_ne : PySem.W.nsIn K N_S "__ne__" = some none) :
    ∃ fd : FuncData, (∀ (s : Shared) (v : Value), BindsTo s fd ⟨[v], []⟩ [("_law_script", v)]) ∧ ∀ base : Heap, K.In base → base.Ns mainGlobals mg → FnG l.prog w K mg base 10 fa fd ["_law_script"] (sp_law K) := by
  have e := hfa.symm.trans (PySem.W.mg_of X G a_law)
  cases e
  have F_isint := fun_mk (st := s_is_integer) l_isint c_isint k_isint
  have b_isint := F_isint.binds (ps := ["value"]) fun _ _ _ _ _ _ us hl => match us, hl with | [_], _ => rfl
  have D_isint : Df K mg "is_integer" s_is_integer ["value"] f_isint _ := ⟨F_isint, PySem.W.mg_of X G a_isint, b_isint⟩
  have F_iscount := fun_mk (st := s_is_count) l_iscount c_iscount k_iscount
  have b_iscount := F_iscount.binds (ps := ["value"]) fun _ _ _ _ _ _ us hl => match us, hl with | [_], _ => rfl
  have D_iscount : Df K mg "is_count" s_is_count ["value"] f_iscount _ := ⟨F_iscount, PySem.W.mg_of X G a_iscount, b_iscount⟩
  have F_islist := fun_mk (st := s_is_list) l_islist c_islist k_islist
  have b_islist := F_islist.binds (ps := ["value"]) fun _ _ _ _ _ _ us hl => match us, hl with | [_], _ => rfl
  have D_islist : Df K mg "is_list" s_is_list ["value"] f_islist _ := ⟨F_islist, PySem.W.mg_of X G a_islist, b_islist⟩
  have F_divisor := fun_mk (st := s_divisor) l_divisor c_divisor k_divisor
  have b_divisor := F_divisor.binds (ps := ["numbers"]) fun _ _ _ _ _ _ us hl => match us, hl with | [_], _ => rfl
  have D_divisor : Df K mg "divisor" s_divisor ["numbers"] f_divisor _ := ⟨F_divisor, PySem.W.mg_of X G a_divisor, b_divisor⟩
  have F_plain := fun_mk (st := s_plain) l_plain c_plain k_plain
  have b_plain := F_plain.binds (ps := ["numbers"]) fun _ _ _ _ _ _ us hl => match us, hl with | [_], _ => rfl
  have D_plain : Df K mg "plain" s_plain ["numbers"] f_plain _ := ⟨F_plain, PySem.W.mg_of X G a_plain, b_plain⟩
  have F_isthree := fun_mk (st := s_is_three) l_isthree c_isthree k_isthree
  have b_isthree := F_isthree.binds (ps := ["value"]) fun _ _ _ _ _ _ us hl => match us, hl with | [_], _ => rfl
  have D_isthree : Df K mg "is_three" s_is_three ["value"] f_isthree _ := ⟨F_isthree, PySem.W.mg_of X G a_isthree, b_isthree⟩
  have F_checkpos := fun_mk (st := s_check_position) l_checkpos c_checkpos k_checkpos
  have b_checkpos := F_checkpos.binds (ps := ["position", "size"]) fun _ _ _ _ _ _ us hl => match us, hl with | [_, _], _ => rfl
  have D_checkpos : Df K mg "check_position" s_check_position ["position", "size"] f_checkpos _ := ⟨F_checkpos, PySem.W.mg_of X G a_checkpos, b_checkpos⟩
  have F_ispoint := fun_mk (st := s_is_point) l_ispoint c_ispoint k_ispoint
  have b_ispoint := F_ispoint.binds (ps := ["value"]) fun _ _ _ _ _ _ us hl => match us, hl with | [_], _ => rfl
  have D_ispoint : Df K mg "is_point" s_is_point ["value"] f_ispoint _ := ⟨F_ispoint, PySem.W.mg_of X G a_ispoint, b_ispoint⟩
  have F_tp := fun_mk (st := s_told_point) l_tp c_tp k_tp
  have b_tp := F_tp.binds (ps := ["point"]) fun _ _ _ _ _ _ us hl => match us, hl with | [_], _ => rfl
  have D_tp : Df K mg "told_point" s_told_point ["point"] f_tp _ := ⟨F_tp, PySem.W.mg_of X G a_tp, b_tp⟩
  have F_checkspots := fun_mk (st := s_check_spots) l_checkspots c_checkspots k_checkspots
  have b_checkspots := F_checkspots.binds (ps := ["spots"]) fun _ _ _ _ _ _ us hl => match us, hl with | [_], _ => rfl
  have D_checkspots : Df K mg "check_spots" s_check_spots ["spots"] f_checkspots _ := ⟨F_checkspots, PySem.W.mg_of X G a_checkspots, b_checkspots⟩
  have F_same := fun_mk (st := s_same_points) l_same c_same k_same
  have b_same := F_same.binds (ps := ["spots", "other"]) fun _ _ _ _ _ _ us hl => match us, hl with | [_, _], _ => rfl
  have D_same : Df K mg "same_points" s_same_points ["spots", "other"] f_same _ := ⟨F_same, PySem.W.mg_of X G a_same, b_same⟩
  have F_pot := fun_mk (st := s_pot) l_pot c_pot k_pot
  have b_pot := F_pot.binds (ps := ["_law_script", "_law_k"]) fun _ _ _ _ _ _ us hl => match us, hl with | [_, _], _ => rfl
  have D_pot : Df K mg "_law_pot" s_pot ["_law_script", "_law_k"] f_pot _ := ⟨F_pot, PySem.W.mg_of X G a_pot, b_pot⟩
  have F_draw := fun_mk (st := s_draw) l_draw c_draw k_draw
  have b_draw := F_draw.binds (ps := ["_law_pot_here", "_law_many"]) fun _ _ _ _ _ _ us hl => match us, hl with | [_, _], _ => rfl
  have D_draw : Df K mg "_law_draw" s_draw ["_law_pot_here", "_law_many"] f_draw _ := ⟨F_draw, PySem.W.mg_of X G a_draw, b_draw⟩
  have F_pick := fun_mk (st := s_pick) l_pick c_pick k_pick
  have b_pick := F_pick.binds (ps := ["_law_pot_here", "_law_some"]) fun _ _ _ _ _ _ us hl => match us, hl with | [_, _], _ => rfl
  have D_pick : Df K mg "_law_pick" s_pick ["_law_pot_here", "_law_some"] f_pick _ := ⟨F_pick, PySem.W.mg_of X G a_pick, b_pick⟩
  have F_common := fun_mk (st := s_common) l_common c_common k_common
  have b_common := F_common.binds (ps := ["_law_numbers"]) fun _ _ _ _ _ _ us hl => match us, hl with | [_], _ => rfl
  have D_common : Df K mg "_law_common" s_common ["_law_numbers"] f_common _ := ⟨F_common, PySem.W.mg_of X G a_common, b_common⟩
  have F_told := fun_mk (st := s_told) l_told c_told k_told
  have b_told := F_told.binds (ps := ["_law_point_here"]) fun _ _ _ _ _ _ us hl => match us, hl with | [_], _ => rfl
  have D_told : Df K mg "_law_told" s_told ["_law_point_here"] f_told _ := ⟨F_told, PySem.W.mg_of X G a_told, b_told⟩
  have F_point := fun_mk (st := s_point) l_point c_point k_point
  have b_point := F_point.binds (ps := ["_law_pot_here", "_law_most"]) fun _ _ _ _ _ _ us hl => match us, hl with | [_, _], _ => rfl
  have D_point : Df K mg "_law_point" s_point ["_law_pot_here", "_law_most"] f_point _ := ⟨F_point, PySem.W.mg_of X G a_point, b_point⟩
  have F_given := fun_mk (st := s_given) l_given c_given k_given
  have b_given := F_given.binds (ps := ["_law_pot_here", "_law_point_here"]) fun _ _ _ _ _ _ us hl => match us, hl with | [_, _], _ => rfl
  have D_given : Df K mg "_law_given" s_given ["_law_pot_here", "_law_point_here"] f_given _ := ⟨F_given, PySem.W.mg_of X G a_given, b_given⟩
  have F_spots := fun_mk (st := s_law_spots) l_spots c_spots k_spots
  have b_spots := F_spots.binds (ps := ["_law_pot_here", "_law_many", "_law_most"]) fun _ _ _ _ _ _ us hl => match us, hl with | [_, _, _], _ => rfl
  have D_spots : Df K mg "_law_spots" s_law_spots ["_law_pot_here", "_law_many", "_law_most"] f_spots _ := ⟨F_spots, PySem.W.mg_of X G a_spots, b_spots⟩
  have F_handed := fun_mk (st := s_law_handed) l_handed c_handed k_handed
  have b_handed := F_handed.binds (ps := ["_law_pot_here", "_law_found"]) fun _ _ _ _ _ _ us hl => match us, hl with | [_, _], _ => rfl
  have D_handed : Df K mg "_law_handed" s_law_handed ["_law_pot_here", "_law_found"] f_handed _ := ⟨F_handed, PySem.W.mg_of X G a_handed, b_handed⟩
  have F_mixed := fun_mk (st := s_law_mixed) l_mixed c_mixed k_mixed
  have b_mixed := F_mixed.binds (ps := ["_law_pot_here", "_law_found"]) fun _ _ _ _ _ _ us hl => match us, hl with | [_, _], _ => rfl
  have D_mixed : Df K mg "_law_mixed" s_law_mixed ["_law_pot_here", "_law_found"] f_mixed _ := ⟨F_mixed, PySem.W.mg_of X G a_mixed, b_mixed⟩
  have F_shows := fun_mk (st := s_law_shows) l_shows c_shows k_shows
  have b_shows := F_shows.binds (ps := ["_law_spots_here", "_law_found"]) fun _ _ _ _ _ _ us hl => match us, hl with | [_, _], _ => rfl
  have D_shows : Df K mg "_law_shows" s_law_shows ["_law_spots_here", "_law_found"] f_shows _ := ⟨F_shows, PySem.W.mg_of X G a_shows, b_shows⟩
  have F_parts := fun_mk (st := s_parts) l_parts c_parts k_parts
  have b_parts := F_parts.binds (ps := ["_law_pot_here", "_law_spots_here", "_law_found", "_law_other"]) fun _ _ _ _ _ _ us hl => match us, hl with | [_, _, _, _], _ => rfl
  have D_parts : Df K mg "_law_parts_right" s_parts ["_law_pot_here", "_law_spots_here", "_law_found", "_law_other"] f_parts _ := ⟨F_parts, PySem.W.mg_of X G a_parts, b_parts⟩
  have F_right := fun_mk (st := s_right) l_right c_right k_right
  have b_right := F_right.binds (ps := ["_law_pot_here"]) fun _ _ _ _ _ _ us hl => match us, hl with | [_], _ => rfl
  have D_right : Df K mg "_law_right" s_right ["_law_pot_here"] f_right _ := ⟨F_right, PySem.W.mg_of X G a_right, b_right⟩
  have F_law := fun_mk (st := s_law) l_law c_law k_law
  have F_init := fun_mk (st := s_Spots_init) l_init c_init k_init
  have b_init := F_init.binds (ps := ["self", "points"]) fun _ _ _ _ _ _ us hl => match us, hl with | [_, _], _ => rfl
  have F_pts := fun_mk (st := s_Spots_points) l_pts c_pts k_pts
  have b_pts := F_pts.binds (ps := ["self"]) fun _ _ _ _ _ _ us hl => match us, hl with | [_], _ => rfl
  have F_pl := fun_mk (st := s_Spots_place) l_pl c_pl k_pl
  have b_pl := F_pl.binds (ps := ["self", "point"]) fun _ _ _ _ _ _ us hl => match us, hl with | [_, _], _ => rfl
  have F_wo := fun_mk (st := s_Spots_without) l_wo c_wo k_wo
  have b_wo := F_wo.binds (ps := ["self", "position"]) fun _ _ _ _ _ _ us hl => match us, hl with | [_, _], _ => rfl
  have F_wi := fun_mk (st := s_Spots_with_point) l_wi c_wi k_wi
  have b_wi := F_wi.binds (ps := ["self", "point"]) fun _ _ _ _ _ _ us hl => match us, hl with | [_, _], _ => rfl
  have F_eq := fun_mk (st := s_Spots_eq) l_eq c_eq k_eq
  have b_eq := F_eq.binds (ps := ["self", "other"]) fun _ _ _ _ _ _ us hl => match us, hl with | [_, _], _ => rfl
  have F_rp := fun_mk (st := s_Spots_repr) l_rp c_rp k_rp
  have b_rp := F_rp.binds (ps := ["self"]) fun _ _ _ _ _ _ us hl => match us, hl with | [_], _ => rfl
  have B : Blt mg := ⟨PySem.W.mg_none_of X G z_isinstance, PySem.W.mg_none_of X G z_int, PySem.W.mg_none_of X G z_bool, PySem.W.mg_none_of X G z_list, PySem.W.mg_none_of X G z_tuple, PySem.W.mg_none_of X G z_len, PySem.W.mg_none_of X G z_all, PySem.W.mg_none_of X G z_any, PySem.W.mg_none_of X G z_abs, PySem.W.mg_none_of X G z_max, PySem.W.mg_none_of X G z_min, PySem.W.mg_none_of X G z_divmod, PySem.W.mg_none_of X G z_range, PySem.W.mg_none_of X G z_repr, PySem.W.mg_none_of X G z_enumerate⟩
  have hG := PySem.W.mg_of X G v_gcd
  have nS := PySem.W.mg_none_of X G z_sorted
  have S : SpTxt K mg C_S := ⟨⟨pg_S, hd_S, po_S, sa_S⟩, n_S_points, PySem.W.mg_of X G a_S, ⟨_, PySem.W.mg_of X G v_most⟩⟩
  have I : InsOf K C_S := ⟨S.cl, x_ha, x_hn, x_htk, x_hm, kit_no x_cl x_ty x_sl, kit_no x_cl x_ty x_st⟩
  have F_size := fun_mk (st := s_Spots_size) l_size c_size k_size
  have b_size := F_size.binds (ps := ["self"]) fun _ _ _ _ _ _ us hl => match us, hl with | [_], _ => rfl
  have hp : PropOf K C_S "size" p_size f_size := ⟨a_size, g_size, t_size, ⟨_, r_size⟩⟩
  have M : Mk K C_S f_init := ⟨mk_S, a_init, i_init, kc_S⟩
  have mP : Meth K C_S "points" f_pts := ⟨a_pts, i_pts, k_pts⟩
  refine ⟨PySem.W.fnOf "law" "law" (defArgs s_law) (defBody s_law) (defScope s_law) .none kV_law dc_law pm_law an_law cd_law ct_law, fun s v => .of_eq rfl, fun base _ _ => ?_⟩
  · have GD : FnOk l.prog w K mg base CX0 1 f_draw _ ["_law_pot_here", "_law_many"] sp_draw := ok_draw F_draw B
    have GIL : FnOk l.prog w K mg base CX0 1 f_islist _ ["value"] (sp_is_list K) := ok_is_list F_islist B
    have GIC : FnOk l.prog w K mg base CX0 2 f_iscount _ ["value"] sp_is_count := ok_is_count F_iscount B D_isint
    have GCP : FnOk l.prog w K mg base CX0 3 f_checkpos _ ["position", "size"] sp_check_position := ok_check_position F_checkpos D_iscount GIC
    have GIP : FnOk l.prog w K mg base CX0 3 f_ispoint _ ["value"] (sp_is_point K) := ok_is_point F_ispoint B D_isthree D_isint D_islist
    have GPl : FnOk l.prog w K mg base CX0 2 f_plain _ ["numbers"] (sp_plain K) := ok_plain F_plain hG D_divisor
    have GTP : FnOk l.prog w K mg base CX0 4 f_tp _ ["point"] (sp_told_point K) := ok_told_point F_tp B D_ispoint D_plain GIP GPl
    have GPick : FnOk l.prog w K mg base CX0 2 f_pick _ ["_law_pot_here", "_law_some"] (sp_pick K) := ok_pick F_pick B D_draw GD
    have GCom : FnOk l.prog w K mg base CX0 1 f_common _ ["_law_numbers"] (sp_common K) := ok_common F_common B
    have GTold : FnOk l.prog w K mg base CX0 2 f_told _ ["_law_point_here"] (sp_told K) := ok_told F_told B D_common GCom
    have GPoint : FnOk l.prog w K mg base CX0 2 f_point _ ["_law_pot_here", "_law_most"] sp_point := ok_point F_point B D_draw GD
    have GGiven : FnOk l.prog w K mg base CX0 2 f_given _ ["_law_pot_here", "_law_point_here"] (sp_given K) := ok_given F_given B D_draw GD
    have GI : FnOk l.prog w K mg base CX0 5 f_init _ ["self", "points"] (sp_init K C_S) := ok_init F_init S B D_islist D_ispoint D_tp GIL GIP GTP
    have GSize : FnOk l.prog w K mg base CX0 1 f_size _ ["self"] (sp_size K C_S) := ok_size F_size S B
    have GCS : FnOk l.prog w K mg base CX0 1 f_checkspots _ ["spots"] (sp_check_spots K C_S) := ok_check_spots F_checkspots S B I
    have GPts : FnOk l.prog w K mg base CX0 1 f_pts _ ["self"] (sp_points K C_S) := ok_points F_pts S B
    have T : Lib l.prog w K mg base C_S :=
      { B := B, S := S, fI := f_init, dI := _, M := M, GI := GI, bI := b_init, kI := kb_of F_init (fun _ _ _ _ _ _ us ws h1 h2 => match us, ws, h1, h2 with | [_], [_], _, _ => rfl),
        pS := p_size, fS := f_size, dS := _, hp := hp, GS := GSize, bS := b_size,
        fE := f_eq, dE := _, eo := ⟨a_eq, i_eq⟩, no := ne_mk l_S l_NS q_NS e_eq e_ne l_eq i_eq, GE := ok_eq F_eq S B I, bE := b_eq,
        fR := f_rp, dR := _, ro := ⟨a_rp, i_rp⟩, GR := ok_repr F_rp S, bR := b_rp,
        fP := f_pts, dP := _, mP := mP, GP := GPts, bP := b_pts,
        fL := f_pl, dL := _, mL := ⟨a_pl, i_pl, k_pl⟩, GL := ok_place F_pl S D_tp GTP, bL := b_pl,
        fW := f_wo, dW := _, mW := ⟨a_wo, i_wo, k_wo⟩, GW := ok_without F_wo S D_checkpos GCP hp GSize b_size M GI b_init, bW := b_wo, kW := kb_of F_wo (fun _ _ _ _ _ _ us ws h1 h2 => match us, ws, h1, h2 with | [_], [_], _, _ => rfl),
        fA := f_wi, dA := _, mA := ⟨a_wi, i_wi, k_wi⟩, GA := ok_with F_wi S D_tp GTP hp GSize b_size M GI b_init, bA := b_wi, kA := kb_of F_wi (fun _ _ _ _ _ _ us ws h1 h2 => match us, ws, h1, h2 with | [_], [_], _, _ => rfl),
        nL := x_nl, nT := x_nt,
        fSm := f_same, dSm := _, Sm := D_same, GSm := ok_same F_same S nS D_checkspots GCS mP b_pts GPts, kSm := kb_sw F_same (fun _ _ _ _ _ _ us ws h1 h2 => match us, ws, h1, h2 with | [], [_, _], _, _ => rfl),
        fDraw := f_draw, dDraw := _, Draw := D_draw, GDraw := GD, fPoint := f_point, dPoint := _, Point := D_point, GPoint := GPoint, fGiven := f_given, dGiven := _, Given := D_given, GGiven := GGiven, fTold := f_told, dTold := _, Told := D_told, GTold := GTold,
        fSpots := f_spots, dSpots := _, Spots := D_spots, GSpots := ok_law_spots F_spots B D_point GPoint D_told GTold,
        fHanded := f_handed, dHanded := _, Handed := D_handed, GHanded := ok_handed F_handed B D_pick GPick D_given GGiven D_draw GD,
        fMixed := f_mixed, dMixed := _, Mixed := D_mixed, GMixed := ok_mixed F_mixed B D_draw GD }
    have GSh : FnG l.prog w K mg base 6 f_shows _ ["_law_spots_here", "_law_found"] (sp_shows K C_S) := ok_shows F_shows T
    have GPa : FnG l.prog w K mg base 8 f_parts _ ["_law_pot_here", "_law_spots_here", "_law_found", "_law_other"] (sp_parts K C_S) := ok_parts F_parts T D_shows GSh
    exact ok_law F_law B D_pot D_right (ok_right F_right T D_shows GSh D_parts GPa)
end G0

open PySem PySem.W PyProof.Rows
set_option maxRecDepth 100000 in
set_option maxHeartbeats 0 in
theorem PySem.Challenge.cw_pointrows_k22_whole_spots_kept_holds : PySem.Challenge.rw_pointrows_k22_whole_spots_kept.Holds := by
  w_on; o_law; k_head; (case hw => w_witness2)
  k_fill
  refine G0.walk_G (l := PySem.Challenge.rw_pointrows_k22_whole_spots_kept) (n := 63) (k := 10) (x := "_law_script") (sp := G0.sp_law) rfl (by decide) rfl ⟨rfl, by decide, by decide⟩ (fun w h Y => PySem.W.kIn_of Y) ?F (fun _ _ a ns hl _ hS => ⟨a, ns, rfl, hS, hl, fun _ => rfl⟩)
  case F =>
    intro w mg fa h KX G hmg
    refine' G0.all_mk KX G hmg ?a_isint ?l_isint ?c_isint ?k_isint ?a_iscount ?l_iscount ?c_iscount ?k_iscount ?a_islist ?l_islist ?c_islist ?k_islist ?a_divisor ?l_divisor ?c_divisor ?k_divisor ?a_plain ?l_plain ?c_plain ?k_plain ?a_isthree ?l_isthree ?c_isthree ?k_isthree ?a_checkpos ?l_checkpos ?c_checkpos ?k_checkpos ?a_ispoint ?l_ispoint ?c_ispoint ?k_ispoint ?a_tp ?l_tp ?c_tp ?k_tp ?a_checkspots ?l_checkspots ?c_checkspots ?k_checkspots ?a_same ?l_same ?c_same ?k_same ?a_pot ?l_pot ?c_pot ?k_pot ?a_draw ?l_draw ?c_draw ?k_draw ?a_pick ?l_pick ?c_pick ?k_pick ?a_common ?l_common ?c_common ?k_common ?a_told ?l_told ?c_told ?k_told ?a_point ?l_point ?c_point ?k_point ?a_given ?l_given ?c_given ?k_given ?a_spots ?l_spots ?c_spots ?k_spots ?a_handed ?l_handed ?c_handed ?k_handed ?a_mixed ?l_mixed ?c_mixed ?k_mixed ?a_shows ?l_shows ?c_shows ?k_shows ?a_parts ?l_parts ?c_parts ?k_parts ?a_right ?l_right ?c_right ?k_right ?a_law ?l_law ?c_law ?k_law ?a_S ?a_init ?i_init ?l_init ?c_init ?k_init ?a_pts ?i_pts ?l_pts ?c_pts ?k_pts ?a_pl ?i_pl ?l_pl ?c_pl ?k_pl ?a_wo ?i_wo ?l_wo ?c_wo ?k_wo ?a_wi ?i_wi ?l_wi ?c_wi ?k_wi ?a_eq ?i_eq ?l_eq ?c_eq ?k_eq ?a_rp ?i_rp ?l_rp ?c_rp ?k_rp ?pg_S ?hd_S ?po_S ?sa_S ?mk_S ?kc_S ?n_S_points ?v_most ?v_gcd ?z_isinstance ?z_int ?z_bool ?z_list ?z_tuple ?z_len ?z_all ?z_any ?z_abs ?z_max ?z_min ?z_divmod ?z_range ?z_repr ?z_enumerate ?z_sorted ?a_size ?g_size ?t_size ?r_size ?l_size ?c_size ?k_size ?x_ha ?x_hn ?x_htk ?x_hm ?x_cl ?x_ty ?x_sl ?x_st ?x_nl ?x_nt ?l_S ?l_NS ?q_NS ?e_eq ?e_ne
    (case a_isint => k_is)
    (case l_isint => k_is)
    (case c_isint => k_is)
    (case k_isint => k_is)
    (case a_iscount => k_is)
    (case l_iscount => k_is)
    (case c_iscount => k_is)
    (case k_iscount => k_is)
    (case a_islist => k_is)
    (case l_islist => k_is)
    (case c_islist => k_is)
    (case k_islist => k_is)
    (case a_divisor => k_is)
    (case l_divisor => k_is)
    (case c_divisor => k_is)
    (case k_divisor => k_is)
    (case a_plain => k_is)
    (case l_plain => k_is)
    (case c_plain => k_is)
    (case k_plain => k_is)
    (case a_isthree => k_is)
    (case l_isthree => k_is)
    (case c_isthree => k_is)
    (case k_isthree => k_is)
    (case a_checkpos => k_is)
    (case l_checkpos => k_is)
    (case c_checkpos => k_is)
    (case k_checkpos => k_is)
    (case a_ispoint => k_is)
    (case l_ispoint => k_is)
    (case c_ispoint => k_is)
    (case k_ispoint => k_is)
    (case a_tp => k_is)
    (case l_tp => k_is)
    (case c_tp => k_is)
    (case k_tp => k_is)
    (case a_checkspots => k_is)
    (case l_checkspots => k_is)
    (case c_checkspots => k_is)
    (case k_checkspots => k_is)
    (case a_same => k_is)
    (case l_same => k_is)
    (case c_same => k_is)
    (case k_same => k_is)
    (case a_pot => k_is)
    (case l_pot => k_is)
    (case c_pot => k_is)
    (case k_pot => k_is)
    (case a_draw => k_is)
    (case l_draw => k_is)
    (case c_draw => k_is)
    (case k_draw => k_is)
    (case a_pick => k_is)
    (case l_pick => k_is)
    (case c_pick => k_is)
    (case k_pick => k_is)
    (case a_common => k_is)
    (case l_common => k_is)
    (case c_common => k_is)
    (case k_common => k_is)
    (case a_told => k_is)
    (case l_told => k_is)
    (case c_told => k_is)
    (case k_told => k_is)
    (case a_point => k_is)
    (case l_point => k_is)
    (case c_point => k_is)
    (case k_point => k_is)
    (case a_given => k_is)
    (case l_given => k_is)
    (case c_given => k_is)
    (case k_given => k_is)
    (case a_spots => k_is)
    (case l_spots => k_is)
    (case c_spots => k_is)
    (case k_spots => k_is)
    (case a_handed => k_is)
    (case l_handed => k_is)
    (case c_handed => k_is)
    (case k_handed => k_is)
    (case a_mixed => k_is)
    (case l_mixed => k_is)
    (case c_mixed => k_is)
    (case k_mixed => k_is)
    (case a_shows => k_is)
    (case l_shows => k_is)
    (case c_shows => k_is)
    (case k_shows => k_is)
    (case a_parts => k_is)
    (case l_parts => k_is)
    (case c_parts => k_is)
    (case k_parts => k_is)
    (case a_right => k_is)
    (case l_right => k_is)
    (case c_right => k_is)
    (case k_right => k_is)
    (case a_law => k_is)
    (case l_law => k_is)
    (case c_law => k_is)
    (case k_law => k_is)
    (case a_S => k_is)
    (case a_init => k_is)
    (case i_init => k_is)
    (case l_init => k_is)
    (case c_init => k_is)
    (case k_init => k_is)
    (case a_pts => k_is)
    (case i_pts => k_is)
    (case l_pts => k_is)
    (case c_pts => k_is)
    (case k_pts => k_is)
    (case a_pl => k_is)
    (case i_pl => k_is)
    (case l_pl => k_is)
    (case c_pl => k_is)
    (case k_pl => k_is)
    (case a_wo => k_is)
    (case i_wo => k_is)
    (case l_wo => k_is)
    (case c_wo => k_is)
    (case k_wo => k_is)
    (case a_wi => k_is)
    (case i_wi => k_is)
    (case l_wi => k_is)
    (case c_wi => k_is)
    (case k_wi => k_is)
    (case a_eq => k_is)
    (case i_eq => k_is)
    (case l_eq => k_is)
    (case c_eq => k_is)
    (case k_eq => k_is)
    (case a_rp => k_is)
    (case i_rp => k_is)
    (case l_rp => k_is)
    (case c_rp => k_is)
    (case k_rp => k_is)
    (case pg_S => k_is)
    (case hd_S => k_is)
    (case po_S => k_is)
    (case sa_S => k_is)
    (case mk_S => k_is)
    (case kc_S => k_is)
    (case n_S_points => k_is)
    (case v_most => k_is)
    (case v_gcd => k_is)
    (case z_isinstance => k_is)
    (case z_int => k_is)
    (case z_bool => k_is)
    (case z_list => k_is)
    (case z_tuple => k_is)
    (case z_len => k_is)
    (case z_all => k_is)
    (case z_any => k_is)
    (case z_abs => k_is)
    (case z_max => k_is)
    (case z_min => k_is)
    (case z_divmod => k_is)
    (case z_range => k_is)
    (case z_repr => k_is)
    (case z_enumerate => k_is)
    (case z_sorted => k_is)
    (case a_size => k_is)
    (case g_size => k_is)
    (case t_size => k_is)
    (case r_size => k_is)
    (case l_size => k_is)
    (case c_size => k_is)
    (case k_size => k_is)
    (case x_ha => k_is)
    (case x_hn => k_is)
    (case x_htk => k_is)
    (case x_hm => k_is)
    (case x_cl => k_is)
    (case x_ty => k_is)
    (case x_sl => k_is)
    (case x_st => k_is)
    (case x_nl => k_is)
    (case x_nt => k_is)
    (case l_S => k_is)
    (case l_NS => k_is)
    (case q_NS => rfl)
    (case e_eq => k_is)
    (case e_ne => k_is)

