import PyProof.Rows.All
import Wide.All
import OpenK.AllK
import Wide.FinOn
import HandS.ForMost
import HandS.Deep
import HandS.Gcd
import HandS.IsInst
import HandS.Wide
import HandS.WideBits
import HandS.FStrTup
import HandS.Walk
import KE.GoesEnum
import KE.GoesMore
import KE.GoesZip
import HandS.Iter
import KE.KUnpack
import HandS.Style
import HandS.ForExc
import HandS.ExcInit
import HandS.ExcField
import HandS.TupAny
import HandS.SortInts
import KE.SortData
import HandS.Sort
import HandS.Star
import HandS.Property
import HandS.OwnEq
import HandS.ExcOwn
import HandS.TryMany
import PyProof.ExcBaseAll.RuntimeError
import PySem.Challenge.RW_pointrows_k52_whole_stairs_have_their_ro
set_option Elab.async false
set_option linter.all false
set_option maxRecDepth 100000
set_option maxHeartbeats 4000000
namespace G0
open PySem PySem.Spec PyProof.Rows L2
/-! A def's promise where no repr is under way (the around's guards are empty): repr of data is then known. -/
structure FnG (P : Program) (w : World) (K : PySem.W.Frag) (mg : Str → Option Value) (base : Heap) (k : Nat) (f : Addr) (fd : FuncData) (ps : List Str) (sp : Sp) : Prop where
  len : ∀ vs H Q E, sp vs H Q E → vs.length = ps.length
  run : ∀ (A : Around) (outer : List Env) (s : Shared) (H : Hp) (args : Args) (us : List Value) (vs : List V) (Q : VK) (E : XK), A.guards = some [] → Room k A →
    Env0 P w K mg base A outer s H → BindsTo s fd args (ps.zip us) → Vals vs us → sp vs H Q E → codeAny (model P w) A (.call (.ref f) args) (CR CX0 outer P w H s Q E) s
theorem FnG.ofOk {P : Program} {w : World} {K : PySem.W.Frag} {mg : Str → Option Value} {base : Heap} {k : Nat} {f : Addr} {fd : FuncData} {ps : List Str} {sp : Sp} (F : FnOk P w K mg base CX0 k f fd ps sp) : FnG P w K mg base k f fd ps sp :=
  ⟨F.len, fun A outer s H args us vs Q E _ hr he hb hv hs => F.run A outer s H args us vs Q E hr he hb hv hs⟩
theorem FnG.mono {P : Program} {w : World} {K : PySem.W.Frag} {mg : Str → Option Value} {base : Heap} {j k : Nat} {f : Addr} {fd : FuncData} {ps : List Str} {sp : Sp} (F : FnG P w K mg base j f fd ps sp) (h : j ≤ k) : FnG P w K mg base k f fd ps sp :=
  ⟨F.len, fun A outer s H args us vs Q E hg hr => F.run A outer s H args us vs Q E hg (hr.mono h)⟩

section
variable {X : Cx} {k : Nat} {f : Addr} {fd : FuncData} {ps : List Str} {sp : Sp} {dvs : List V} {ds : List Value} {E : XK} {x : Str} {p pos : Pos} {e : Expr} {es : List Expr} {t : TA}
theorem run_g {pn : List (Addr × Obj)} {σ : L2.St} {H : Hp} {s : Shared} {Q : VK} {us : List Value} {vs : List V} (F : FnG X.prog X.w X.K X.mg X.base k f fd ps sp) (gd : X.A.guards = some []) (room : Room k X.A) (bn : Binds X.K fd ps ds) (dv : Vals dvs ds)
    (J : Inv X pn σ H s) (rv : Vals vs us) (want : sp (vs ++ dvs) H Q E) : wpAny (model X.prog X.w) X.A (call (.ref f) us) (EP X pn σ Q) X.xe s := by
  have rv2 := rv.append dv
  have ln : (us ++ ds).length = ps.length := rv2.length.symm.trans (F.len _ _ _ _ want)
  refine wpAny_call (codeAny_mono (F.run X.A X.stack s H ⟨us, []⟩ (us ++ ds) (vs ++ dvs) Q E gd room J.env0 (bn s us J.kIn ln) rv2 want) fun res s2 got => ?_)
  match res, got with
  | .error _, got => exact got.elim
  | .ok (.ret _), got => exact J.after got
  | .ok .next, got => exact got.elim
  | .ok .brk, got => exact got.elim
  | .ok .cont, got => exact got.elim
theorem pe_callG (F : FnG X.prog X.w X.K X.mg X.base k f fd ps sp) (gd : X.A.guards = some []) (room : Room k X.A) (gl : Gl X x) (at_ : X.mg x = some (.ref f)) (kp : PySem.W.keepIn X.K (.ref f) = true) (bn : Binds X.K fd ps ds) (dv : Vals dvs ds)
    (pa : PA X (e :: es) t) (hdb : (x == ("__debug__" : Str)) = false := by decide) (he : starEach (e :: es) X.env = (false, eval e X.env) :: starEach es X.env := by rfl) (hpl : (backTo pos (starEach es X.env)).any (·.1) = false := by rfl) :
    PE X (.Call (.Name x p) (e :: es) [] pos) (tCall sp dvs E t) := by
  constructor
  intro pn s σ H Q J want
  apply wpAny_Call_Name_kw
  refine ld_glob J gl at_ ?_ hdb
  refine PySem.W.callWith_K (h₀ := X.base) J.ok.mod.kin kp ?_ he hpl
  refine thn (pa.run pos pn s σ H _ J want) ?_
  rintro us s1 ⟨vs, H1, J1, rv, q⟩
  exact ⟨J1.kIn, run_g F gd room bn dv J1 rv q⟩
end

/-- a def's body, the guards empty -/
theorem _root_.L2.Fun.okG {P : Program} {w : World} {K : PySem.W.Frag} {mg : Str → Option Value} {base : Heap} {x qual : Str} {st : Stmt} {f : Addr} {fd : FuncData} {N ps : List Str} {k : Nat} {sp : Sp} (F : Fun K x qual st f fd) (S : FnScope N ps (defScope st))
    (ln : ∀ vs H Q E, sp vs H Q E → vs.length = ps.length)
    (body : ∀ (cdv : Value) (A : Around) (outer : List Env) (s : Shared) (H : Hp) (vs : List V) (Q : VK) (E : XK), (A.deeper (envOfC qual (defScope st) s.heap.objs.size f cdv)).guards = some [] → Room k (A.deeper (envOfC qual (defScope st) s.heap.objs.size f cdv)) → sp vs H Q E →
      ∃ t, PSs (cxOf CX0 P w K mg base N qual (defScope st) f cdv A outer s H E).nox (defBody st) t ∧ t { nx := fun _ H' => Q .non H', rt := Q } (start N vs) H) : FnG P w K mg base (k + 1) f fd ps sp := by
  obtain ⟨oc, od, kV, doc, pm, an, cdv, ct, osl, rfl, look, code⟩ := F.ex
  constructor
  · exact ln
  intro A outer s H args us vs Q E gd room e0 bn rv want
  have ln1 := ln _ _ _ _ want
  have kin : K.In s.heap := e0.mod.kin.keeps fun b o q => (e0.bs b o q).1
  have nolim : s.heap.NoLimit := e0.mod.nolimit.keeps fun b o q => (e0.bs b o q).1
  have kinds : ∀ y ∈ ps.zip us, (defScope st).names.lookup y.1 = some .local ∨ ((defScope st).names.lookup y.1 = some .cell ∧ ((cellsFrom (s.heap.objs.size + 1) (defScope st).names []).lookup y.1).isSome = true) := by
    rintro ⟨n, v⟩ mem
    rcases S.par n (List.of_mem_zip mem).1 with here | here
    · exact .inl here
    · exact .inr ⟨here, PySem.W.cellsFrom_some _ _ _ (.inl here)⟩
  refine codeAny_call_function room.depth (kin _ _ look) rfl S.co S.gen rfl (PySem.W.codeRec_of kin code) (bn _ _ _ _ ?_)
  refine wpAny_newFunctionEnv_cells S.kind kinds fun env he s1 into => ?_
  cases he
  refine ⟨nolim.keeps into.toInCall.keep, codeAny_func ?_⟩
  obtain ⟨t, ht, run⟩ := body cdv A outer s H vs Q E gd (room.deeper _) want
  have J : Inv (cxOf CX0 P w K mg base N qual (defScope st) f cdv A outer s H E) [] (start N vs) H s1 := inv_start S room.hd e0 ln1 rv into
  refine wpAny_mono (ht.nox.run [] s1 (start N vs) H _ J run) (fun fl s2 got => ?_) fun _ _ got => got
  match fl, got with
  | .ret u, ⟨v, σ2, H2, J2, rv2, q⟩ => exact ⟨v, H2, J2.os, J2.bare, J2.base, J2.hok, rv2, q⟩
  | .next, ⟨σ2, H2, J2, q⟩ => exact ⟨.non, H2, J2.os, J2.bare, J2.base, J2.hok, rfl, q⟩
  | .brk, ⟨_, _, _, q⟩ => exact q.elim
  | .cont, ⟨_, _, _, q⟩ => exact q.elim

/-! ### repr of data -/
def rRepr (K : PySem.W.Frag) : List V → Hp → VK → Prop := fun xs H Q => ∃ (x : V) (d : PyData), xs = [x] ∧ Dp K H x d ∧ d.showable = true ∧ d.hasDict = false ∧ d.depth ≤ 16 ∧ d.shown.length ≤ sizeLine ∧ Q (.str d.shown) H
theorem cr_repr {X : Cx} (gd : X.A.guards = some []) (hu : X.A.units + 64 < cLine) : CallR X (.builtin "repr") (fun xs H Q => ∃ (a : Addr) (d : PyData), xs = [.ref a] ∧ Dp X.K H (.ref a) d ∧ d.showable = true ∧ d.hasDict = false ∧ d.depth ≤ 16 ∧ d.shown.length ≤ sizeLine ∧ Q (.str d.shown) H) := by
  intro pn s σ H xs us Q J rv h
  obtain ⟨a, d, rfl, dp, sh, nd, dep, z, q⟩ := h
  obtain ⟨u, rfl, ru⟩ := vals1 rv
  cases ru
  obtain ⟨as, rd⟩ := Dp.reads J d _ _ dp rfl
  refine repr_of_reads' rd sh (fun e => ?_) gd (by omega) (fun _ _ e => e) (fun h2 u2 tk keep => ?_) z
  · rw [nd] at e
    cases e
  · exact ⟨.str d.shown, H, J.kept keep, ⟨_, rfl⟩, q⟩
end G0

namespace G0
open PySem PySem.Spec PyProof.Rows L2
/-- the law is called where no repr is under way -/
theorem call_top {P : Program} {w : World} {K : PySem.W.Frag} {mg mb : Str → Option Value} {k : Nat} {fa a : Addr} {fd : FuncData} {x : Str} {sp : Sp} {s1 : Shared} {vs : List Value} {ns : List Int}
    (kin : K.In s1.heap) (hns : s1.heap.Ns mainGlobals mg) (hb : s1.heap.Ns builtinsNs mb) (hbb : ∀ x : Str, x ≠ "__name__" → mb x = bootBuiltins x) (lim : s1.heap.NoLimit) (gens : s1.gens = #[])
    (ha : s1.heap.get? a = some { cls := .type "list", data := .seq vs.toArray }) (hi : IntsAre vs ns) (hl : ns.length ≤ sizeLine) (room : Room k callerA)
    (F : ∀ base : Heap, K.In base → base.Ns mainGlobals mg → FnG P w K mg base k fa fd [x] sp) (bind : ∀ (s : Shared) (u : Value), BindsTo s fd ⟨[u], []⟩ [(x, u)])
    (want : ∀ H : Hp, Only H → SqL K H a (ns.map V.int) → sp [.ref a] H (fun v _ => v = .bl true) fun _ _ _ => False) :
    codeAny (model P w) callerA (.call (.ref fa) ⟨[.ref a], []⟩) (fun r s2 => r = .ok (.ret (.bool true)) ∧ OldK s1.heap s2.heap ∧ s2.os = s1.os ∧ AllBare s2.gens) s1 := by
  have vv := vals_ints hi
  have lv := hi.length
  -- H tracks nothing, or the script alone
  have main : ∀ H : Hp, Only H → SqL K H a (ns.map V.int) → HOk P w H s1.heap → (∀ b, H b ≠ none → b = a ∧ K.lookup a = none) →
      codeAny (model P w) callerA (.call (.ref fa) ⟨[.ref a], []⟩) (fun r s2 => r = .ok (.ret (.bool true)) ∧ OldK s1.heap s2.heap ∧ s2.os = s1.os ∧ AllBare s2.gens) s1 := by
    intro H only sq hok just
    have free : ∀ {b : Addr} {ob : Obj} {es : Array DictEntry} {ep : Nat}, s1.heap.get? b = some ob → ob.data = .dict es ep → H b = none := by
      intro b ob es ep e1 e2
      refine Classical.byContradiction fun no => ?_
      obtain rfl := (just b no).1
      rw [ha] at e1
      cases e1
      cases (show Data.seq vs.toArray _ = Data.dict es ep from e2)
    have ns_of : ∀ {b : Addr} {m : Str → Option Value}, s1.heap.Ns b m → (hidT s1.heap H).Ns b m := by
      rintro b m ⟨ob, es, ep, e1, e2, rest⟩
      exact ⟨ob, es, ep, hidT_get e1 (free e1 e2), e2, rest⟩
    have kinH : K.In (hidT s1.heap H) := by
      intro b ob e1
      refine hidT_get (kin b ob e1) (Classical.byContradiction fun no => ?_)
      obtain ⟨rfl, z⟩ := just b no
      rw [z] at e1
      cases e1
    have limH : (hidT s1.heap H).NoLimit := by
      obtain ⟨mc, l1, l2⟩ := lim
      exact ⟨mc, ns_of l1, l2⟩
    have env : Env0 P w K mg (hidT s1.heap H) callerA [] s1 H := by
      refine ⟨rfl, ⟨kinH, ns_of hns, ⟨mb, ns_of hb, hbb⟩, limH⟩, fun b ob e1 => of_hidT e1, Nat.le_of_eq (hidT_size _ _), trivial, ?_, hok, .of_eq gens⟩
      intro b mem
      cases (show b ∈ ([] : List Addr) from mem)
    refine codeAny_mono ((F _ kinH (ns_of hns)).run callerA [] s1 H ⟨[.ref a], []⟩ [.ref a] [.ref a] _ _ rfl room env (bind s1 (.ref a)) (.cons rfl .nil) (want H only sq)) fun res s2 got => ?_
    match res, got with
    | .error _, got => exact got.elim
    | .ok .next, got => exact got.elim
    | .ok .brk, got => exact got.elim
    | .ok .cont, got => exact got.elim
    | .ok (.ret u), ⟨v, H2, eos, bare, un, hok2, rv, (q : v = .bl true)⟩ =>
      subst q
      obtain rfl : u = Value.bool true := rv
      refine ⟨rfl, OldK.of_keep fun b ob e1 => ?_, eos, bare⟩
      rcases only b with z | ⟨oz, ys, z⟩
      · refine un.keep b ob e1 z (fun mem => ?_) (fun mem => ?_)
        · cases (show b ∈ ([] : List Addr) from mem)
        · cases mem
      · obtain ⟨i1, _⟩ := hok b _ z
        obtain ⟨i2, _⟩ := hok2 b _ (un.frzs b oz _ z)
        exact i2.trans (i1.symm.trans e1)
  cases written : K.lookup a with
  | some ob =>
    have e1 := kin a ob written
    rw [ha] at e1
    cases e1
    refine main (fun _ => none) (fun _ => .inl rfl) (.inr ⟨_, vs.toArray, _, written, rfl, rfl, rfl, ?_, ?_⟩) (fun b u e2 => ?_) (fun b no => absurd rfl no)
    · rw [List.size_toArray, lv]
      exact hl
    · simpa using vv
    · cases (show (none : Option HO) = some u from e2)
  | none =>
    let T : Hp := fun b => if b = a then some (.frz { cls := .type "list", data := .seq vs.toArray } (.lst (ns.map V.int))) else none
    have here : T a = some (.frz { cls := .type "list", data := .seq vs.toArray } (.lst (ns.map V.int))) := if_pos rfl
    have away : ∀ b, b ≠ a → T b = none := fun b ne => if_neg ne
    refine main T (fun b => ?_) (.inl (.inr ⟨_, here⟩)) (fun b u e2 => ?_) (fun b no => ?_)
    · by_cases eb : b = a
      · subst eb
        exact .inr ⟨_, _, here⟩
      · exact .inl (away b eb)
    · by_cases eb : b = a
      · subst eb
        rw [here] at e2
        cases e2
        refine ⟨ha, ?_, vs, _, vv, ha⟩
        rw [List.length_map]
        exact hl
      · rw [away b eb] at e2
        cases e2
    · refine ⟨Classical.byContradiction fun ne => no (away b ne), written⟩
/-- what k_head leaves, by such a promise -/
theorem walk_G {l : PySem.W.OpenLaw} {n k : Nat} {q : Program} {loose : List Str} {XP : (Str → Option Value) → Heap → Prop} {YP : World → Heap → Prop} {d : DefRec} {K : Params → PySem.W.Frag} {sp : PySem.W.Frag → Sp} {x : Str}
    (most : l.most = some n) (fits : n ≤ sizeLine) (nodf : d.params.defaults = []) (room : Room k callerA) (hY : ∀ (w : World) (h : Heap), YP w h → (K w.params).In h)
    (F : ∀ (w : World) (mg : Str → Option Value) (fa : Addr) (h : Heap), (K w.params).In h → h.Ns mainGlobals mg → mg d.name = some (.ref fa) →
      ∃ fd : FuncData, (∀ (s : Shared) (u : Value), BindsTo s fd ⟨[u], []⟩ [(x, u)]) ∧ ∀ base : Heap, (K w.params).In base → base.Ns mainGlobals mg → FnG l.prog w (K w.params) mg base k fa fd [x] (sp (K w.params)))
    (want : ∀ (w : World) (H : Hp) (a : Addr) (ns : List Int), ns.length ≤ n → Only H → SqL (K w.params) H a (ns.map V.int) → sp (K w.params) [.ref a] H (fun v _ => v = .bl true) fun _ _ _ => False) :
    PySem.W.WalkO q loose XP YP l.row.toRowW d [] (fun f vs => PySem.call f vs) := by
  refine Att.attach_call most nodf ?_
  intro w s0 s1 mg mb fa o pm cd doc a vs ns G Y ho hd hcd hmg hobj iv len gens
  obtain ⟨fd, bn, hF⟩ := F w mg fa _ (hY w _ Y) G.T.g hmg
  exact call_top (hY w _ Y) G.T.g G.T.b G.T.builtins G.T.nolimit gens hobj iv (Nat.le_trans len fits) room hF bn fun H only sq => want w H a ns len only sq
end G0

namespace G0
open PySem PySem.Spec PyProof.Rows L2
/-! ### calls whose last arguments are all given by name, in the parameters' sequence -/
structure KB (fd : FuncData) (ps ks : List Str) (n : Nat) : Prop where
  to : ∀ us ws : List Value, us.length = n → ws.length = ks.length → bindArgs fd ⟨us, ks.zip ws⟩ = pure (ps.zip (us ++ ws))
theorem kb_of {K : PySem.W.Frag} {x qual : Str} {st : Stmt} {f : Addr} {fd : FuncData} {ps ks : List Str} {n : Nat} (F : Fun K x qual st f fd)
    (h : ∀ (kV doc pm : Value) (an : Option Addr) (cdv ct : Value) (us ws : List Value), us.length = n → ws.length = ks.length → bindArgs (PySem.W.fnOf x qual (defArgs st) (defBody st) (defScope st) .none kV doc pm an cdv ct) ⟨us, ks.zip ws⟩ = pure (ps.zip (us ++ ws))) : KB fd ps ks n := by
  obtain ⟨oc, od, kV, doc, pm, an, cdv, ct, osl, rfl, _, _⟩ := F.ex
  exact ⟨h kV doc pm an cdv ct⟩
section
variable {X : Cx} {k n : Nat} {f C : Addr} {fd : FuncData} {ps ks : List Str} {sp : Sp} {E : XK} {x m : Str} {p pos apos : Pos} {e o : Expr} {kws : List Keyword} {ta : TE} {tk : TA}
theorem run_kb {pn : List (Addr × Obj)} {σ : L2.St} {H : Hp} {s : Shared} {Q : VK} {us ws : List Value} {vs zs : List V} (F : FnOk X.prog X.w X.K X.mg X.base CX0 k f fd ps sp) (room : Room k X.A) (bn : KB fd ps ks n)
    (J : Inv X pn σ H s) (rv : Vals vs us) (rz : Vals zs ws) (l1 : vs.length = n) (l2 : zs.length = ks.length) (want : sp (vs ++ zs) H Q E) : wpAny (model X.prog X.w) X.A (call (.ref f) us (ks.zip ws)) (EP X pn σ Q) X.xe s := by
  refine wpAny_call (codeAny_mono (F.run X.A X.stack s H ⟨us, ks.zip ws⟩ (us ++ ws) (vs ++ zs) Q E room J.env0 (.of_eq (bn.to us ws (rv.length.symm.trans l1) (rz.length.symm.trans l2))) (rv.append rz) want) fun res s2 got => ?_)
  match res, got with
  | .error _, got => exact got.elim
  | .ok (.ret _), got => exact J.after got
  | .ok .next, got => exact got.elim
  | .ok .brk, got => exact got.elim
  | .ok .cont, got => exact got.elim
/-- f(k = v, ..) -/
def tCallN (sp : Sp) (n : Nat) (E : XK) (tk : TA) : TE := fun σ H Q => tk σ H fun zs H1 => zs.length = n ∧ sp zs H1 Q E
theorem pe_callN (F : FnOk X.prog X.w X.K X.mg X.base CX0 k f fd ps sp) (room : Room k X.A) (gl : Gl X x) (at_ : X.mg x = some (.ref f)) (kp : PySem.W.keepIn X.K (.ref f) = true) (bn : KB fd ps ks 0) (pk : PK X kws tk)
    (hall : (backToKw pos (keywordEach kws X.env)).all (·.1.isSome) = true := by rfl) (hks : (backToKw pos (keywordEach kws X.env)).filterMap (·.1) = ks := by rfl) (hdb : (x == ("__debug__" : Str)) = false := by decide)
    (hpl : ((backTo pos (starEach [] X.env)).any (·.1) || (backToKw pos (keywordEach kws X.env)).any (·.1.isNone)) = false := by rfl) : PE X (.Call (.Name x p) [] kws pos) (tCallN sp ks.length E tk) := by
  constructor
  intro pn s σ H Q J want
  apply wpAny_Call_Name_kw
  refine ld_glob J gl at_ ?_ hdb
  refine PySem.W.callWith_KW0 (h₀ := X.base) J.ok.mod.kin kp hall ?_ hpl
  refine thn (pk.run pos pn s σ H _ J want) ?_
  rintro ws s2 ⟨zs, H2, J2, rz, l2, q2⟩
  rw [hks]
  exact ⟨J2.kIn, run_kb (us := []) (vs := []) F room bn J2 .nil rz rfl l2 q2⟩
/-- o.m(k = v, ..) -/
def tMethN (C : Addr) (m : Str) (sp : Sp) (n : Nat) (E : XK) (ta : TE) (tk : TA) : TE := fun σ H Q => ta σ H fun x H1 => ∃ a dx fs, x = .ref a ∧ H1 a = some (.ins C dx fs) ∧ fs.lookup m = none ∧ tk σ H1 fun zs H2 => zs.length = n ∧ sp (x :: zs) H2 Q E
theorem pe_methN {pl : Sem Bool} (po : PE X o ta) (c : Cls X.K C) (hm : Meth X.K C m f) (F : FnOk X.prog X.w X.K X.mg X.base CX0 k f fd ps sp) (room : Room k X.A) (bn : KB fd ps ks 1) (pk : PK X kws tk)
    (hall : (backToKw pos (keywordEach kws X.env)).all (·.1.isSome) = true := by rfl) (hks : (backToKw pos (keywordEach kws X.env)).filterMap (·.1) = ks := by rfl)
    (hpl : ((backTo pos (starEach [] X.env)).any (·.1) || (backToKw pos (keywordEach kws X.env)).any (·.1.isNone)) = false := by rfl)
    (ht : eval (.Call (.Attribute o m apos) [] kws pos) X.env = (do
      let ov ← eval o X.env
      standAt apos.atName
      let (g, first) ← holding [ov] (getMethod ov m pl)
      callWith pos g first (backTo pos (starEach [] X.env)) (backToKw pos (keywordEach kws X.env))) := by rfl) :
    PE X (.Call (.Attribute o m apos) [] kws pos) (tMethN C m sp ks.length E ta tk) := by
  constructor
  intro pn s σ H Q J want
  refine PySem.W.methodCall_KW (pl := pl) (thn (po.run pn s σ H _ J want) ?_) ht
  rintro u s1 ⟨x, H1, J1, rx, a, dx, fs, rfl, ea, l, q⟩
  obtain rfl : u = Value.ref a := rx
  refine getmeth_ok J1 ea c hm l ?_
  refine PySem.W.callWith_KW0 (first := [.ref a]) (h₀ := X.base) J1.ok.mod.kin hm.kp hall ?_ hpl
  refine thn (pk.run pos pn s1 σ H1 _ J1 q) ?_
  rintro ws s2 ⟨zs, H2, J2, rz, l2, q2⟩
  rw [hks]
  refine ⟨J2.kIn, ?_⟩
  exact run_kb (us := [.ref a]) (vs := [.ref a]) F room bn J2 (.cons rfl .nil) rz rfl l2 q2
end

/-! ### data in the heap -/
theorem same_new {H : Hp} {q : Addr} {o : HO} (h : H q = none) : Same H (upd H q o) := fun b u e => by
  rw [upd_ne (ne_of_none e h)]
  exact e
theorem same_t {K : PySem.W.Frag} {H H' : Hp} {a : Addr} {xs : List V} (e : Same H H') (h : SqT K H a xs) : SqT K H' a xs := by
  rcases h with (h | ⟨o, h⟩) | h
  · exact .inl (.inl (e _ _ h))
  · exact .inl (.inr ⟨o, e _ _ h⟩)
  · exact .inr h
/-- a list or a tuple -/
def Sq (K : PySem.W.Frag) (H : Hp) (a : Addr) (xs : List V) : Prop := SqL K H a xs ∨ SqT K H a xs
theorem Sq.same {K : PySem.W.Frag} {H H' : Hp} {a : Addr} {xs : List V} (e : Same H H') (h : Sq K H a xs) : Sq K H' a xs := h.imp e.seq (same_t e)
theorem SqT.mk {K : PySem.W.Frag} {H : Hp} {a : Addr} {xs : List V} (h : H a = some (.tup xs)) : SqT K H a xs := .inl (.inl h)
theorem SqL.mk {K : PySem.W.Frag} {H : Hp} {a : Addr} {xs : List V} (h : H a = some (.lst xs)) : SqL K H a xs := .inl (.inl h)
mutual
theorem Dp.same {K : PySem.W.Frag} {H H' : Hp} (e : Same H H') : ∀ {v : V} {d : PyData}, Dp K H v d → Dp K H' v d
  | _, _, .non => .non
  | _, _, .bl b => .bl b
  | _, _, .int i => .int i
  | _, _, .str x => .str x
  | _, _, .lst h a => .lst (e.seq h) (DpAll.same e a)
  | _, _, .tup h a => .tup (same_t e h) (DpAll.same e a)
theorem DpAll.same {K : PySem.W.Frag} {H H' : Hp} (e : Same H H') : ∀ {vs : List V} {ds : List PyData}, DpAll K H vs ds → DpAll K H' vs ds
  | _, _, .nil => .nil
  | _, _, .cons h a => .cons (Dp.same e h) (DpAll.same e a)
end
theorem dp_ints {K : PySem.W.Frag} {H : Hp} : ∀ ns : List Int, DpAll K H (ns.map V.int) (ns.map PyData.int)
  | [] => .nil
  | n :: ns => .cons (.int n) (dp_ints ns)
/-- what a list, a tuple of ints is, as data -/
abbrev dTup (ns : List Int) : PyData := .tuple (ns.map .int)
abbrev dLst (ns : List Int) : PyData := .list (ns.map .int)
theorem dp_tup {K : PySem.W.Frag} {H : Hp} {a : Addr} {ns : List Int} (h : SqT K H a (ns.map V.int)) : Dp K H (.ref a) (dTup ns) := .tup h (dp_ints ns)
theorem dp_lst {K : PySem.W.Frag} {H : Hp} {a : Addr} {ns : List Int} (h : SqL K H a (ns.map V.int)) : Dp K H (.ref a) (dLst ns) := .lst h (dp_ints ns)
theorem eqv_ints : ∀ ns ms : List Int, PyData.eqvAll (ns.map PyData.int) (ms.map PyData.int) = decide (ns = ms)
  | [], [] => by simp [PyData.eqvAll]
  | [], _ :: _ => by simp [PyData.eqvAll]
  | _ :: _, [] => by simp [PyData.eqvAll]
  | n :: ns, m :: ms => by
    have ih := eqv_ints ns ms
    simp only [List.map_cons, PyData.eqvAll, PyData.eqv, ih, List.cons.injEq, Bool.decide_and]
    congr 1
theorem eqv_tup (ns ms : List Int) : PyData.eqv (dTup ns) (dTup ms) = decide (ns = ms) := by
  simp only [PyData.eqv, eqv_ints]
end G0

namespace G0
open PySem PySem.Spec PyProof.Rows L2
/-! ### data whose text is short enough -/
mutual
def szD : PyData → Nat
  | .none => 5
  | .bool _ => 5
  | .int _ => 1930
  | .str x => (reprText x).length
  | .list xs => szAll xs + 3
  | .tuple xs => szAll xs + 3
  | .dict _ => 0
def szAll : List PyData → Nat
  | [] => 0
  | x :: xs => szD x + 2 + szAll xs
end
theorem list_text (ts : List Str) : (listText ts).length ≤ piled ts + 2 := by
  unfold listText
  rw [strLen_append]
  have e1 : ((("[" : String) : Str)).length = 1 := rfl
  have e2 : ((("]" : String) : Str)).length = 1 := rfl
  cases ts with
  | nil =>
    show (("[" : String) : Str).length + _ ≤ _
    omega
  | cons t r =>
    show (textFrom 1 ((("[" : String) : Str) ++ ((if 0 > 0 then ", " else "" : String) : Str) ++ t) r).length + _ ≤ _
    have e3 : (((if 0 > 0 then ", " else "" : String) : Str)).length = 0 := rfl
    rw [textFrom_length_pos _ _ _ Nat.one_pos, strLen_append, strLen_append, piled_cons]
    omega
mutual
theorem shown_le : ∀ d : PyData, d.showable = true → d.hasDict = false → d.shown.length ≤ szD d
  | .none, _, _ => by
    simp only [PyData.shown, szD]
    decide
  | .bool b, _, _ => by
    cases b <;> simp only [PyData.shown, szD] <;> decide
  | .int i, h, _ => by
    simp only [PyData.shown, szD]
    simp only [PyData.showable, decide_eq_true_eq] at h
    have e := int_text_length_le (k := 1920) (by decide) h
    have e2 : ((toString i : String) : Str).length = (toString i).length := PySem.ofString_length _
    omega
  | .str x, _, _ => by
    simp only [PyData.shown, szD]
    exact Nat.le_refl _
  | .list xs, h, n => by
    simp only [PyData.showable] at h
    simp only [PyData.hasDict] at n
    simp only [PyData.shown, szD]
    have e1 := list_text (PyData.shownAll xs)
    have e2 := shownAll_le xs h n
    omega
  | .tuple xs, h, n => by
    simp only [PyData.showable] at h
    simp only [PyData.hasDict] at n
    simp only [PyData.shown, szD]
    have e1 := fmt_text (PyData.shownAll xs)
    have e2 := shownAll_le xs h n
    omega
  | .dict _, _, n => by
    simp only [PyData.hasDict] at n
    cases n
theorem shownAll_le : ∀ xs : List PyData, PyData.showableAll xs = true → PyData.hasDictAll xs = false → piled (PyData.shownAll xs) ≤ szAll xs
  | [], _, _ => by
    simp only [PyData.shownAll, szAll, piled_nil]
    exact Nat.le_refl _
  | x :: xs, h, n => by
    simp only [PyData.showableAll, Bool.and_eq_true] at h
    simp only [PyData.hasDictAll, Bool.or_eq_false_iff] at n
    have e1 := shown_le x h.1 n.1
    have e2 := shownAll_le xs h.2 n.2
    simp only [PyData.shownAll, szAll, piled_cons]
    omega
end
/-- short data, no dict in it: its repr is known -/
structure Fine (d : PyData) : Prop where
  sh : d.showable = true
  nd : d.hasDict = false
  dep : d.depth ≤ 16
  sz : szD d ≤ 10000000
theorem Fine.fit {d : PyData} (h : Fine d) : d.shown.length ≤ sizeLine := by
  have e := shown_le d h.sh h.nd
  have := h.sz
  rw [sizeLine_eq]
  omega
/-- a list of fine ones, no more than 4000 of them, deep and long as told -/
structure FineAll (ds : List PyData) (dep sz : Nat) : Prop where
  sh : PyData.showableAll ds = true
  nd : PyData.hasDictAll ds = false
  dep : PyData.depthAll ds ≤ dep
  sz : szAll ds ≤ sz
theorem FineAll.nil {dep sz : Nat} : FineAll [] dep sz := ⟨by simp only [PyData.showableAll], by simp only [PyData.hasDictAll], by simp only [PyData.depthAll]; exact Nat.zero_le _, by simp only [szAll]; exact Nat.zero_le _⟩
theorem FineAll.cons {d : PyData} {ds : List PyData} {dep s1 s2 : Nat} (h1 : d.showable = true) (h2 : d.hasDict = false) (h3 : d.depth ≤ dep) (h4 : szD d ≤ s1) (h : FineAll ds dep s2) : FineAll (d :: ds) dep (s1 + 2 + s2) := by
  refine ⟨?_, ?_, ?_, ?_⟩
  · simp only [PyData.showableAll, h1, h.sh, Bool.and_self]
  · simp only [PyData.hasDictAll, h2, h.nd, Bool.or_self]
  · simp only [PyData.depthAll]
    exact Nat.max_le.mpr ⟨h3, h.dep⟩
  · simp only [szAll]
    have := h.sz
    omega
theorem small_log {i : Int} (h : i.natAbs < 2 ^ 1919) : i.natAbs.log2 < 1920 := by
  by_cases e : i.natAbs = 0
  · rw [e]
    decide
  · exact (Nat.log2_lt e).mpr (Nat.lt_trans h (by decide +kernel))
/-- ints of up to 1900 bits -/
def Sm (ns : List Int) : Prop := ∀ n ∈ ns, n.natAbs < 2 ^ 1919
theorem fine_ints : ∀ {ns : List Int}, Sm ns → FineAll (ns.map PyData.int) 0 (1932 * ns.length)
  | [], _ => .nil
  | n :: ns, h => by
    have ih := fine_ints (ns := ns) fun m hm => h m (List.mem_cons_of_mem _ hm)
    have e := FineAll.cons (d := .int n) (dep := 0) (s1 := 1930) (by simp only [PyData.showable, decide_eq_true_eq]; exact small_log (h n List.mem_cons_self)) (by simp only [PyData.hasDict]) (by simp only [PyData.depth]; exact Nat.le_refl _) (by simp only [szD]; exact Nat.le_refl _) ih
    refine ⟨e.sh, e.nd, e.dep, Nat.le_trans e.sz ?_⟩
    rw [List.length_cons]
    omega
theorem Fine.tup {ds : List PyData} {dep sz : Nat} (h : FineAll ds dep sz) (h1 : dep ≤ 15) (h2 : sz + 3 ≤ 10000000) : Fine (.tuple ds) := by
  refine ⟨by simp only [PyData.showable]; exact h.sh, by simp only [PyData.hasDict]; exact h.nd, ?_, ?_⟩
  · have := h.dep
    simp only [PyData.depth]
    omega
  · have := h.sz
    simp only [szD]
    omega
theorem Fine.lst {ds : List PyData} {dep sz : Nat} (h : FineAll ds dep sz) (h1 : dep ≤ 15) (h2 : sz + 3 ≤ 10000000) : Fine (.list ds) := by
  refine ⟨by simp only [PyData.showable]; exact h.sh, by simp only [PyData.hasDict]; exact h.nd, ?_, ?_⟩
  · have := h.dep
    simp only [PyData.depth]
    omega
  · have := h.sz
    simp only [szD]
    omega
theorem fine_tup {ns : List Int} (h : Sm ns) (l : ns.length ≤ 5000) : Fine (dTup ns) := .tup (fine_ints h) (by decide) (by omega)
theorem fine_lst {ns : List Int} (h : Sm ns) (l : ns.length ≤ 5000) : Fine (dLst ns) := .lst (fine_ints h) (by decide) (by omega)
/-- repr of fine data -/
def rReprF (K : PySem.W.Frag) : List V → Hp → VK → Prop := fun xs H Q => ∃ (a : Addr) (d : PyData), xs = [.ref a] ∧ Dp K H (.ref a) d ∧ Fine d ∧ Q (.str d.shown) H
theorem call_repr {X : Cx} (gd : X.A.guards = some []) (hu : X.A.units + 64 < cLine) : CallR X (.builtin "repr") (rReprF X.K) := by
  intro pn s σ H xs us Q J rv h
  obtain ⟨a, d, e, dp, f, q⟩ := h
  exact cr_repr gd hu pn s σ H xs us Q J rv ⟨a, d, e, dp, f.sh, f.nd, f.dep, f.fit, q⟩
end G0

namespace G0
open PySem PySem.Spec PyProof.Rows L2
/-! ### comprehensions that only add: an item x gives what F says, or nothing -/
def fm (F : V → Option V) (xs : List V) : List V := xs.filterMap F
theorem fm_succ {F : V → Option V} {xs : List V} {i : Nat} {x : V} (h : xs[i]? = some x) : fm F (xs.take (i + 1)) = fm F (xs.take i) ++ (match F x with | some y => [y] | none => []) := by
  unfold fm
  rw [List.take_add_one, h, List.filterMap_append]
  congr 1
  simp only [Option.toList]
  cases e : F x <;> simp [e]
theorem fm_len (F : V → Option V) (xs : List V) (i : Nat) : (fm F (xs.take i)).length ≤ xs.length :=
  Nat.le_trans (List.length_filterMap_le ..) (by rw [List.length_take]; exact Nat.min_le_right _ _)
section
variable {K : PySem.W.Frag} {a : Addr} {xs : List V} {g : TG} {tt : TT} {te : TE} {vs : List Nat} {σ : L2.St} {H1 : Hp} {D : Addr} {Qd : Hp → Prop}
/-- one turn, whatever follows -/
def Turn1 (g : TG) (tt : TT) (te : TE) (vs : List Nat) (σ : L2.St) (F : V → Option V) (x : V) (H : Hp) : Prop :=
  ∀ (G : V → Hp → Prop) (N : Hp → Prop), (F x = none → ∀ H', Same H H' → N H') → (∀ y, F x = some y → ∀ H', Same H H' → G y H') → g x (wipe σ vs) H fun σ2 H2 => wipe σ2 vs = wipe σ vs ∧ tt σ2 H2 fun b H3 => if b = true then te σ2 H3 G else N H3
theorem turn_fm {n : Nat} (F : V → Option V) (hn : xs.length < sizeLine) {i : Nat} {x : V} {H : Hp} {N1 : Hp → Prop} (hx : xs[i]? = some x) (hsame : Same H1 H) (hD1 : H1 D = none) (hD : H D = some (.lst (fm F (xs.take i)))) (t : Turn1 g tt te vs σ F x H)
    (nx : ∀ H', Same H1 H' → H' D = some (.lst (fm F (xs.take (i + 1)))) → N1 H') :
    g x (wipe σ vs) H fun σ2 H2 => wipe σ2 vs = wipe σ vs ∧ tt σ2 H2 fun b H3 => if b = true then te σ2 H3 fun y H4 => ∃ acc, H4 D = some (.lst acc) ∧ acc.length < sizeLine ∧ N1 (upd H4 D (.lst (acc ++ [y]))) else N1 H3 := by
  refine t _ _ (fun e H' s => ?_) (fun y e H' s => ?_)
  · refine nx H' (hsame.trans s) ?_
    rw [fm_succ hx, e, List.append_nil]
    exact s _ _ hD
  · refine ⟨_, s _ _ hD, Nat.lt_of_le_of_lt (fm_len F xs i) hn, nx _ (fun b o eb => ?_) ?_⟩
    · rw [upd_ne (ne_of_none eb hD1)]
      exact s _ _ (hsame _ _ eb)
    · rw [upd_same, fm_succ hx, e]
theorem lcL (F : V → Option V) (hl : SqL K H1 a xs) (hn : xs.length < sizeLine) (hD : H1 D = none) (t : ∀ x, x ∈ xs → ∀ H, Same H1 H → Turn1 g tt te vs σ F x H) (hd : ∀ H, Same H1 H → H D = some (.lst (fm F xs)) → Qd H) :
    ∃ W : Nat → Nat → Hp → Prop, (∃ m, W 0 m (upd H1 D (.lst []))) ∧ ∀ i m H, W i m H →
      ((Itl K a).stop i H ∧ Qd H) ∨ ((Itl K a).go i H ∧ ∃ Nx : Hp → Prop, (∀ H', Nx H' → ∃ m', m' < m ∧ W (i + 1) m' H') ∧ ∀ x H', (Itl K a).yld i H x H' → g x (wipe σ vs) H' fun σ2 H2 => wipe σ2 vs = wipe σ vs ∧ tt σ2 H2 fun b H3 =>
        if b = true then te σ2 H3 fun y H4 => ∃ acc, H4 D = some (.lst acc) ∧ acc.length < sizeLine ∧ Nx (upd H4 D (.lst (acc ++ [y]))) else Nx H3) :=
  lc_list (xs := xs) (fun i H => Same H1 H ∧ H D = some (.lst (fm F (xs.take i)))) ⟨same_new hD, upd_same⟩ (fun _ _ _ h => h.1.seq hl)
    (fun i x H hx h => turn_fm (n := 0) F hn hx h.1 hD h.2 (t x (List.mem_of_getElem? hx) H h.1) fun H' s d => ⟨s, d⟩) (fun H h => hd H h.1 (by rw [h.2, List.take_length]))
theorem lcT (F : V → Option V) (hl : SqT K H1 a xs) (hn : xs.length < sizeLine) (hD : H1 D = none) (t : ∀ x, x ∈ xs → ∀ H, Same H1 H → Turn1 g tt te vs σ F x H) (hd : ∀ H, Same H1 H → H D = some (.lst (fm F xs)) → Qd H) :
    ∃ W : Nat → Nat → Hp → Prop, (∃ m, W 0 m (upd H1 D (.lst []))) ∧ ∀ i m H, W i m H →
      ((Itt K a).stop i H ∧ Qd H) ∨ ((Itt K a).go i H ∧ ∃ Nx : Hp → Prop, (∀ H', Nx H' → ∃ m', m' < m ∧ W (i + 1) m' H') ∧ ∀ x H', (Itt K a).yld i H x H' → g x (wipe σ vs) H' fun σ2 H2 => wipe σ2 vs = wipe σ vs ∧ tt σ2 H2 fun b H3 =>
        if b = true then te σ2 H3 fun y H4 => ∃ acc, H4 D = some (.lst acc) ∧ acc.length < sizeLine ∧ Nx (upd H4 D (.lst (acc ++ [y]))) else Nx H3) :=
  lc_tup (xs := xs) (fun i H => Same H1 H ∧ H D = some (.lst (fm F (xs.take i)))) ⟨same_new hD, upd_same⟩ (fun _ _ _ h => same_t h.1 hl)
    (fun i x H hx h => turn_fm (n := 0) F hn hx h.1 hD h.2 (t x (List.mem_of_getElem? hx) H h.1) fun H' s d => ⟨s, d⟩) (fun H h => hd H h.1 (by rw [h.2, List.take_length]))
end
theorem fm_map (f : V → V) : ∀ xs : List V, fm (fun x => some (f x)) xs = xs.map f
  | [] => rfl
  | x :: xs => by
    show f x :: fm _ xs = f x :: xs.map f
    rw [fm_map f xs]
/-- types of what stands in lists and tuples -/
theorem ty_l {K : PySem.W.Frag} {H : Hp} {a : Addr} {xs : List V} (h : SqL K H a xs) : TyX K H (.ref a) (.type "list") := by
  rcases h with (h | ⟨o, h⟩) | h
  · exact .base (.lst h)
  · exact .base (.frz h)
  · obtain ⟨o, its, n, hk, hc, _⟩ := h
    exact .kList hk hc
theorem ty_t {K : PySem.W.Frag} {H : Hp} {a : Addr} {xs : List V} (h : SqT K H a xs) : TyX K H (.ref a) (.type "tuple") := by
  rcases h with (h | ⟨o, h⟩) | h
  · exact .base (.tup h)
  · exact .fTuple h
  · obtain ⟨o, its, n, hk, hc, _⟩ := h
    exact .kTuple hk hc
end G0

namespace G0
open PySem PySem.Spec PyProof.Rows L2
/-! ### any(xs), xs ints in a list or a tuple -/
theorem truths {prog : Program} {w : World} {A : Around} : ∀ {ns : List Int} {its : List Value}, Vals (ns.map V.int) its → TruthOf prog w A (fun i v => its.toArray[i]? = some v) (fun i => ns.getD i 0 != 0) := by
  intro ns its rv i v s Q E hv hq
  have hv' : its[i]? = some v := by simpa using hv
  have look : ∀ {ms : List Int} {us : List Value} {j : Nat}, Vals (ms.map V.int) us → us[j]? = some v → ∃ n t, ms[j]? = some n ∧ v = .int n t := by
    intro ms
    induction ms with
    | nil =>
      intro us j r h
      cases r
      cases h
    | cons m ms ih =>
      intro us j r h
      cases r with
      | cons r1 r2 =>
        cases j with
        | zero =>
          obtain ⟨t, rfl⟩ := r1
          cases h
          exact ⟨m, t, rfl, rfl⟩
        | succ j => exact ih r2 h
  obtain ⟨n, t, hn, rfl⟩ := look rv hv'
  have hg : ns.getD i 0 = n := by
    rw [List.getD_eq_getElem?_getD, hn]
    rfl
  have hq2 : Q (ns.getD i 0 != 0) s := hq
  rw [hg] at hq2
  exact PyProof.Rows.truthy_int hq2
theorem any_ints : ∀ ns : List Int, ((List.range ns.length).any fun i => ns.getD i 0 != 0) = ns.any fun n => n != 0
  | [] => rfl
  | n :: ns => by
    rw [List.length_cons, List.range_succ_eq_map, List.any_cons, List.any_map, List.any_cons, ← any_ints ns]
    all_goals rfl
section
variable {X : Cx}
def rAnyI (K : PySem.W.Frag) : List V → Hp → VK → Prop := fun vs H Q => ∃ (a : Addr) (ns : List Int), vs = [V.ref a] ∧ Sq K H a (ns.map V.int) ∧ Q (.bl (ns.any fun n => n != 0)) H
theorem cr_anyI (calm : X.calm = true) : CallR X (.builtin "any") (rAnyI X.K) := by
  intro pn s σ H vs us Q J r h
  obtain ⟨a, ns, rfl, hs, q⟩ := h
  rw [Vals.ref1 r]
  rcases hs with hs | hs
  · obtain ⟨its, rv, hl, _⟩ := J.list hs
    have lv := rv.length
    refine call_any_walk (iter_any hl.isList fun s2 e2 st hne => ?_)
    subst e2
    refine ⟨_, _, _, _, _, _, _, rfl, Walks.list (A := X.A.in1) (J.ok.hd calm) _ a hne its.toArray, st, truths rv, fun h2 tk hk => ?_⟩
    refine ⟨.bl _, H, J.kept fun b o eo => hk b o (fun mem => ?_) (Heap.get?_push_of_some _ eo), ?_, q⟩
    · rcases List.mem_cons.mp mem with e1 | mem
      · exact absurd (e1 ▸ Heap.lt_size eo) (Nat.lt_irrefl _)
      · cases mem
    · rw [List.size_toArray, ← lv, List.length_map, any_ints]
      rfl
  · obtain ⟨its, rv, hl, _⟩ := J.tuple hs
    have lv := rv.length
    obtain ⟨o1, ho1, hc1, n1, hd1⟩ := hl
    have hT : s.heap.IsTuple a its.toArray := ⟨o1, ho1, hc1, n1, hd1⟩
    have hlt : a < s.heap.objs.size := Heap.lt_size ho1
    refine call_any_walk (wpAny_pyIter_tuple hT ?_)
    refine ⟨_, _, _, _, _, _, _, rfl, Walks.tuple (A := X.A.in1) (J.ok.hd calm) _ a (Nat.ne_of_lt hlt) its.toArray, ⟨⟨_, Heap.get?_push_size _ rfl, rfl, rfl⟩, hT.push _⟩, truths rv, fun h2 tk hk => ?_⟩
    refine ⟨.bl _, H, J.kept fun b o eo => hk b o (fun mem => ?_) (Heap.get?_push_of_some _ eo), ?_, q⟩
    · rcases List.mem_cons.mp mem with e1 | mem
      · exact absurd (e1 ▸ Heap.lt_size eo) (Nat.lt_irrefl _)
      · cases mem
    · rw [List.size_toArray, ← lv, List.length_map, any_ints]
      rfl
end
end G0

namespace G0
open PySem PySem.Spec PyProof.Rows L2
/-! ### walks over a list (true) or a tuple (false): enumerate, zip of two, of three -/
def SqK (b : Bool) (K : PySem.W.Frag) (H : Hp) (a : Addr) (xs : List V) : Prop := match b with | true => SqL K H a xs | false => SqT K H a xs
theorem Sq.kind {K : PySem.W.Frag} {H : Hp} {a : Addr} {xs : List V} (h : Sq K H a xs) : ∃ b, SqK b K H a xs := h.elim (fun h => ⟨true, h⟩) (fun h => ⟨false, h⟩)
theorem SqK.sq {b : Bool} {K : PySem.W.Frag} {H : Hp} {a : Addr} {xs : List V} (h : SqK b K H a xs) : Sq K H a xs := by
  cases b with
  | true => exact .inl h
  | false => exact .inr h
theorem SqK.same {b : Bool} {K : PySem.W.Frag} {H H' : Hp} {a : Addr} {xs : List V} (e : Same H H') (h : SqK b K H a xs) : SqK b K H' a xs := by
  cases b with
  | true => exact e.seq h
  | false => exact same_t e h
def IterK (b : Bool) (h : Heap) (it a : Addr) (i : Nat) : Prop := match b with | true => h.IsListIter it a i | false => h.IsTupleIter it a i
def IsK (b : Bool) (h : Heap) (a : Addr) (items : Array Value) : Prop := match b with | true => h.IsList a items | false => h.IsTuple a items
def iterO (b : Bool) (a : Addr) : Obj := match b with
  | true => { cls := .type "list_iterator", data := .fields #[.ref a, .int 0 0] }
  | false => { cls := .type "tuple_iterator", data := .fields #[.ref a, .int 0 0] }
theorem draw_K {prog : Program} {w : World} {A : Around} (calm : A.handled = none) (b : Bool) (it a : Addr) (ne : a ≠ it) (items : Array Value) :
    Draws prog w A it [it, a] items.size (fun i v => items[i]? = some v) (fun i h => IterK b h it a i ∧ IsK b h a items) := by
  cases b with
  | true => exact Draws.list calm it a ne items
  | false => exact Draws.tuple calm it a ne items
theorem begin_K (b : Bool) (a : Addr) (items : Array Value) : Begins (.ref a) (iterO b a) fun h => IsK b h a items := by
  cases b with
  | true => exact begins_list a items
  | false => exact begins_tuple a items
theorem iter_K {b : Bool} {h : Heap} {it a : Addr} (e : h.get? it = some (iterO b a)) : IterK b h it a 0 := by
  cases b with
  | true => exact ⟨_, e, rfl, rfl⟩
  | false => exact ⟨_, e, rfl, rfl⟩
theorem IterK.obj {b : Bool} {h : Heap} {it a : Addr} {i : Nat} (e : IterK b h it a i) : ∃ o, h.get? it = some o ∧ ∀ v, o.data ≠ .cell v := by
  cases b with
  | true =>
    obtain ⟨o, h1, _, h3⟩ := (show h.IsListIter it a i from e)
    exact ⟨o, h1, fun v q => by rw [h3] at q; cases q⟩
  | false =>
    obtain ⟨o, h1, _, h3⟩ := (show h.IsTupleIter it a i from e)
    exact ⟨o, h1, fun v q => by rw [h3] at q; cases q⟩
theorem IterK.keep {b : Bool} {h h' : Heap} {it a : Addr} {i : Nat} (e : IterK b h it a i) (k : ∀ o, h.get? it = some o → h'.get? it = some o) : IterK b h' it a i := by
  cases b with
  | true =>
    obtain ⟨o, h1, h2, h3⟩ := (show h.IsListIter it a i from e)
    exact ⟨o, k o h1, h2, h3⟩
  | false =>
    obtain ⟨o, h1, h2, h3⟩ := (show h.IsTupleIter it a i from e)
    exact ⟨o, k o h1, h2, h3⟩
section
variable {X : Cx} {pins : List (Addr × Obj)} {σ : L2.St} {H : Hp} {s : Shared}
theorem seq_K {b : Bool} {a : Addr} {xs : List V} (J : Inv X pins σ H s) (h : SqK b X.K H a xs) : ∃ its : List Value, Vals xs its ∧ IsK b s.heap a its.toArray ∧ a < s.heap.objs.size := by
  cases b with
  | true =>
    obtain ⟨its, rv, pl, _⟩ := J.list h
    obtain ⟨o, h1, h2⟩ := pl.isList
    exact ⟨its, rv, pl.isList, Heap.lt_size h1⟩
  | false =>
    obtain ⟨its, rv, ⟨o, h1, h2, n, h3⟩, _⟩ := J.tuple h
    exact ⟨its, rv, ⟨o, h1, h2, n, h3⟩, Heap.lt_size h1⟩
theorem inj_K {b : Bool} {a : Addr} {xs ys : List V} (J : Inv X pins σ H s) (h1 : SqK b X.K H a xs) (h2 : SqK b X.K H a ys) : xs = ys := by
  cases b with
  | true => exact J.list_inj h1 h2
  | false => exact J.tuple_inj h1 h2
/-- the i-th item of what stands at a -/
theorem item_K {b : Bool} {a : Addr} {xs : List V} {its : List Value} {i : Nat} {u : Value} {x : V} (rv : Vals xs its) (hu : its.toArray[i]? = some u) (hx : xs[i]? = some x) : RelV x u := by
  obtain ⟨u', hu', ru⟩ := rv.get hx
  have : its[i]? = some u := by simpa using hu
  rw [this] at hu'
  cases hu'
  exact ru
end
/-- enumerate -/
def ItE (b : Bool) (K : PySem.W.Frag) (a : Addr) : It :=
  ⟨fun i H => ∃ (xs : List V) (x : V), SqK b K H a xs ∧ xs[i]? = some x, fun i H v H' => ∃ T x, v = .ref T ∧ H T = none ∧ H' = upd H T (.tup [.int (i : Nat), x]) ∧ ∀ xs, SqK b K H a xs → xs[i]? = some x, fun i H => ∃ xs : List V, SqK b K H a xs ∧ xs.length = i⟩
theorem turn_E {P : Program} {w : World} {K : PySem.W.Frag} {elts : List Expr} {kk : Nat} {tpos : Pos} (b : Bool) (a e it : Addr) (hae : a ≠ e) (hai : a ≠ it) (hei : e ≠ it) :
    Turn P w K (.Tuple elts kk tpos) (ItE b K a) [e, it] e (fun i h => (∃ old, IsEnum h e it ((i : Nat) : Int) old) ∧ IterK b h it a i) where
  mem := by simp
  obj := fun i h st c mem => by
    obtain ⟨⟨old, he⟩, hi⟩ := st
    rcases List.mem_cons.mp mem with q | mem
    · rw [q]
      exact ⟨_, he, fun v z => nomatch z⟩
    · rw [List.mem_singleton.mp mem]
      exact hi.obj
  keep := fun i h h' st k => by
    obtain ⟨⟨old, he⟩, hi⟩ := st
    exact ⟨⟨old, k e (by simp) _ he⟩, hi.keep (k it (by simp))⟩
  item := by
    rintro X rfl rfl rfl hc i pins s σ H E J hf ⟨⟨old, he⟩, hit⟩ ⟨xs, x, hq, hx⟩
    obtain ⟨its, rv, isK, alt⟩ := seq_K J hq
    have elt : e < s.heap.objs.size := Heap.lt_size he
    have ilt : it < s.heap.objs.size := by
      obtain ⟨_, q, _⟩ := hit.obj
      exact Heap.lt_size q
    have len := rv.length
    have ib : i < its.toArray.size := by
      have := (List.getElem?_eq_some_iff.mp hx).1
      simp
      omega
    refine wpAny_pyNext_enum_itemD (draw_K (A := X.A.in1) (J.ok.hd hc) b it a hai its.toArray) he ⟨hit, isK⟩ ib hei (by simp [hei, hae.symm]) fun u h2 tk hu out st2 hT hsz kept => ?_
    refine ⟨_, rfl, wpAny_letOwnedTupleGo_enum (s := { s with heap := h2, toks := tk + 1 }) out fun h3 he3 but => ?_⟩
    have hT3 : h3.get? s.heap.objs.size = some { cls := .type "tuple", data := .seq #[.int i tk, u] } := (but.2 _ (Nat.ne_of_gt elt)).trans hT
    have ru : RelV x u := item_K (b := b) (a := a) rv hu hx
    have fresh : ObjOk X.prog X.w (upd H s.heap.objs.size (.tup [.int (i : Nat), x])) h3 s.heap.objs.size (.tup [.int (i : Nat), x]) :=
      ⟨by show 2 ≤ sizeLine; decide, [.int i tk, u], .cons ⟨_, rfl⟩ (.cons ru .nil), ⟨_, hT3, rfl, _, rfl⟩⟩
    have J3 : Inv X pins σ (upd H s.heap.objs.size (.tup [.int (i : Nat), x])) { s with heap := h3, toks := tk + 1 } :=
      J.turnedNew (ch := [e, it]) (fun c o no q => (but.2 c (fun z => no (by simp [z]))).trans (kept c o (fun z => no (by simp [z])) (fun z => no (by simp [z])) q)) hf (Nat.le_refl _) fresh
    refine ⟨.ref s.heap.objs.size, _, J3, rfl, ⟨_, x, rfl, J.hok.fresh (Nat.le_refl _), rfl, fun ys hy => by rw [inj_K J hy hq]; exact hx⟩, ⟨⟨u, ?_⟩, st2.1.keep fun o q => (but.2 it hei.symm).trans q⟩, fun c mem => ?_⟩
    · have e1 : ((i + 1 : Nat) : Int) = (i : Int) + 1 := by omega
      rw [e1]
      exact he3
    · have lt : c < s.heap.objs.size := by
        rcases List.mem_cons.mp mem with q | mem2
        · rw [q]
          exact elt
        · rw [List.mem_singleton.mp mem2]
          exact ilt
      rw [upd_ne (Nat.ne_of_lt lt)]
      exact (hf c mem).1
  done := by
    rintro X rfl rfl rfl hc i pins s σ H E J hf ⟨⟨old, he⟩, hit⟩ ⟨xs, hq, rfl⟩
    obtain ⟨its, rv, isK, alt⟩ := seq_K J hq
    have len := rv.length
    have es : its.toArray.size = xs.length := by
      rw [List.size_toArray]
      omega
    refine wpAny_pyNext_enum_endD (draw_K (A := X.A.in1) (J.ok.hd hc) b it a hai its.toArray) he (by rw [es]; exact ⟨hit, isK⟩) fun h2 but => ⟨rfl, ?_⟩
    obtain ⟨f0, f1, f2, f3, f4, f5⟩ := hf it (by simp)
    exact J.turned (t' := s.toks) (fun c o no q => but c o no q) f0 f1 f3 f4 f5
  self := fun A i s Q E st h => by
    obtain ⟨⟨_, he⟩, _⟩ := st
    exact wpAny_pyIter_enum he h
theorem enum_new_T {t : Addr} {items : Array Value} : Meets (Builtin.«enumerate.__new__» ⟨[.type "enumerate", .ref t], []⟩) (fun _ R s => s.heap.IsTuple t items ∧
      R (.ok (.ret (.ref (s.heap.push (iterO false t)).objs.size))) { s with heap := (s.heap.push (iterO false t)).push { cls := .type "enumerate", data := .fields #[.none, .bool false, .ref s.heap.objs.size, rawInt 0, .none, .none] } }) := by
  refine .of_wp ?_
  rintro prog w A R ⟨hp, gs, dr, tk, os⟩ ⟨isT, want⟩
  have sub := sub_enumerate
  have it1 : ∀ {A' : Around} {E : Value → Shared → Prop} {Q : Value → Shared → Prop}, Q (.ref hp.objs.size) ⟨hp.push (iterO false t), gs, dr, tk, os⟩ → wpAny (model prog w) A' (pyIter (.ref t)) Q E ⟨hp, gs, dr, tk, os⟩ :=
    fun q => wpAny_pyIter_tuple isT q
  wp_walk using it1
  apply wpAny_stack_any
  intro st
  apply wpAny_pure
  split
  · rename_i c _ _ _ _ _
    cases (c == Value.type "enumerate")
    · wp_walk using it1
      exact ⟨_, rfl, want⟩
    · wp_walk using it1
      exact ⟨_, rfl, want⟩
  · wp_walk using it1
    exact ⟨_, rfl, want⟩
theorem called_enum {b : Bool} {a : Addr} {items : Array Value} {prog : Program} {w : World} {A : Around} {E : Value → Shared → Prop} {s : Shared} {Q : Value → Shared → Prop} (h1 : IsK b s.heap a items)
    (k : ∀ h2, IsEnum h2 (s.heap.objs.size + 1) s.heap.objs.size 0 .none → IterK b h2 s.heap.objs.size a 0 → h2.objs.size = s.heap.objs.size + 2 → (∀ c o, s.heap.get? c = some o → h2.get? c = some o) → Q (.ref (s.heap.objs.size + 1)) { s with heap := h2 }) :
    wpAny (model prog w) A (call (.type "enumerate") [.ref a]) Q E s := by
  cases b with
  | true => exact call_enumerate_list h1 fun h2 x1 x2 x3 x4 => k h2 x1 x2 x3 x4
  | false =>
    refine callType_new F.called_enumerate (by decide) (F.typeCall_enumerate_1 _) (F.newCall_enumerate_1 _) (fun ob => F.args_object_init_2 ob _) F.entry_enumerate_new enum_new_T ⟨h1, ?_⟩
    have z1 : (s.heap.push (iterO false a)).objs.size = s.heap.objs.size + 1 := Heap.size_push ..
    show _ ∧ _
    rw [z1]
    have gE : IsEnum ((s.heap.push (iterO false a)).push { cls := .type "enumerate", data := .fields #[.none, .bool false, .ref s.heap.objs.size, rawInt 0, .none, .none] }) (s.heap.objs.size + 1) s.heap.objs.size 0 .none := by
      have top1 := Heap.get?_push_size (s.heap.push (iterO false a)) (o := { cls := .type "enumerate", data := .fields #[.none, .bool false, .ref s.heap.objs.size, rawInt 0, .none, .none] }) rfl
      rw [z1] at top1
      exact top1
    refine ⟨⟨_, gE, rfl⟩, k _ gE ?_ ?_ ?_⟩
    · exact iter_K (b := false) (Heap.get?_push_of_some _ (Heap.get?_push_size _ rfl))
    · rw [Heap.size_push, z1]
    · intro c o q
      exact Heap.get?_push_of_some _ (Heap.get?_push_of_some _ q)
/-- enumerate(e) of a list or a tuple -/
def iE (b : Bool) (K : PySem.W.Frag) (ta : TA) : TI := fun σ H R => ta σ H fun vs H1 => ∃ a xs, vs = [.ref a] ∧ SqK b K H1 a xs ∧ R (ItE b K a) H1
theorem pi_E (b : Bool) {X : Cx} {e : Expr} {ta : TA} {p pos tpos : Pos} {elts : List Expr} {kk : Nat} (gl : Gl X "enumerate") (no : X.mg "enumerate" = none) (pa : PA X [e] ta) (st : starEach [e] X.env = [(false, eval e X.env)] := by rfl) :
    PI X (.Tuple elts kk tpos) (.Call (.Name "enumerate" p) [e] [] pos) (iE b X.K ta) := by
  constructor
  intro pins s σ H R J want
  refine Call_ (ld_blt J gl no boot_enumerate (PyProof.Rows.callWith_type1 (thn (pa.run pos pins s σ H _ J want) ?_) st rfl))
  rintro us s1 ⟨vs, H1, J1, r1, a, xs, rfl, hq, q⟩
  obtain ⟨u, rfl, ru⟩ := vals1 r1
  cases ru
  obtain ⟨its, rv, isK, alt⟩ := seq_K J1 hq
  refine called_enum isK fun h2 he hit _ kept => wpAny_pyIter_enum he ?_
  have J2 : Inv X pins σ H1 { s1 with heap := h2 } := J1.kept (t' := s1.toks) kept
  refine ⟨s1.heap.objs.size + 1, [s1.heap.objs.size + 1, s1.heap.objs.size], _, _, H1, rfl, J2, turn_E b a (s1.heap.objs.size + 1) s1.heap.objs.size (Nat.ne_of_lt (Nat.lt_succ_of_lt alt)) (Nat.ne_of_lt alt) (Nat.succ_ne_self _), ⟨⟨.none, he⟩, hit⟩, fun c mem => ?_, q⟩
  have le : s1.heap.objs.size ≤ c := by
    rcases List.mem_cons.mp mem with z | mem2
    · rw [z]
      exact Nat.le_succ _
    · rw [List.mem_singleton.mp mem2]
      exact Nat.le_refl _
  exact J1.fpOk le (J1.hok.fresh le)
theorem walk_E {b : Bool} {K : PySem.W.Frag} {a : Addr} {xs : List V} : Walk (ItE b K a) xs.length (fun H => SqK b K H a xs) (YPair (fun i => some (.int (i : Nat))) (fun i => xs[i]?)) := by
  refine ⟨fun i _ hi q => ⟨xs, xs[i], q, by simp [hi]⟩, fun _ q => ⟨xs, q, rfl⟩, fun i H v H' _ q y => ?_⟩
  obtain ⟨T, x, h1, h2, h3, h4⟩ := y
  exact ⟨T, .int (i : Nat), x, h1, h2, h3, rfl, h4 xs q⟩
end G0

namespace G0
open PySem PySem.Spec PyProof.Rows L2
/-! ### zip of two of one length, each a list (true) or a tuple (false) -/
def ItZ (b1 b2 : Bool) (K : PySem.W.Frag) (a1 a2 : Addr) : It :=
  ⟨fun i H => ∃ (xs ys : List V) (x y : V), SqK b1 K H a1 xs ∧ SqK b2 K H a2 ys ∧ xs[i]? = some x ∧ ys[i]? = some y,
    fun i H v H' => ∃ T x y, v = .ref T ∧ H T = none ∧ H' = upd H T (.tup [x, y]) ∧ (∀ xs, SqK b1 K H a1 xs → xs[i]? = some x) ∧ ∀ ys, SqK b2 K H a2 ys → ys[i]? = some y,
    fun i H => ∃ xs ys : List V, SqK b1 K H a1 xs ∧ SqK b2 K H a2 ys ∧ i ≤ xs.length ∧ i ≤ ys.length ∧ (xs.length = i ∨ ys.length = i)⟩
theorem turn_Z {P : Program} {w : World} {K : PySem.W.Frag} {elts : List Expr} {kk : Nat} {tpos : Pos} (b1 b2 : Bool) {a1 a2 z TI TO i1 i2 : Addr} (S : ZipSep2 z TI TO i1 i2 [i1, a1] [i2, a2]) (n1 : a1 ≠ i1) (n2 : a2 ≠ i2) :
    Turn P w K (.Tuple elts kk tpos) (ItZ b1 b2 K a1 a2) [z, TI, TO, i1, i2] z (fun i h => IsZip h z TI TO .none ∧ IsTupOf2 h TI (.ref i1) (.ref i2) ∧ (∃ x y, IsTupOf2 h TO x y) ∧ IterK b1 h i1 a1 i ∧ IterK b2 h i2 a2 i) where
  mem := by simp
  obj := fun i h st c hc => by
    obtain ⟨hz, hTI, ⟨x, y, hTO⟩, h1, h2⟩ := st
    have e' : c = z ∨ c = TI ∨ c = TO ∨ c = i1 ∨ c = i2 := by simpa using hc
    rcases e' with q | q | q | q | q
    · rw [q]; exact ⟨_, hz, fun v q => nomatch q⟩
    · rw [q]; exact ⟨_, hTI, fun v q => nomatch q⟩
    · rw [q]; exact ⟨_, hTO, fun v q => nomatch q⟩
    · rw [q]; exact h1.obj
    · rw [q]; exact h2.obj
  keep := fun i h h' st k => by
    obtain ⟨hz, hTI, ⟨x, y, hTO⟩, h1, h2⟩ := st
    exact ⟨k z (by simp) _ hz, k TI (by simp) _ hTI, ⟨x, y, k TO (by simp) _ hTO⟩, h1.keep (k i1 (by simp)), h2.keep (k i2 (by simp))⟩
  item := by
    rintro X rfl rfl rfl hc i pins s σ H E J hf ⟨hz, hTI, ⟨x0, y0, hTO⟩, h1, h2⟩ ⟨xs, ys, x, y, hqx, hqy, hx, hy⟩
    obtain ⟨its, rv, isK, alt⟩ := seq_K J hqx
    obtain ⟨its2, rv2, isK2, alt2⟩ := seq_K J hqy
    have len := rv.length
    have len2 := rv2.length
    have ib : i < its.toArray.size := by
      have := (List.getElem?_eq_some_iff.mp hx).1
      simp
      omega
    have ib2 : i < its2.toArray.size := by
      have := (List.getElem?_eq_some_iff.mp hy).1
      simp
      omega
    have hzl : z < s.heap.objs.size := Heap.lt_size hz
    refine wpAny_pyNext_zipD2_item S (draw_K (A := X.A.in1) (J.ok.hd hc) b1 i1 a1 n1 its.toArray) (draw_K (A := X.A.in1) (J.ok.hd hc) b2 i2 a2 n2 its2.toArray) hz hTI hTO ⟨h1, isK⟩ ⟨h2, isK2⟩ ib ib2 fun u u2 h' tk hu hu2 z' TO' st1 st2 hT hsz hk => ?_
    refine ⟨_, rfl, wpAny_letOwnedTupleGo_zip (s := { s with heap := h', toks := tk }) z' fun h'' z'' sb => ?_⟩
    have hT2 : h''.get? s.heap.objs.size = some { cls := .type "tuple", data := .seq #[u, u2] } := (sb.2 _ (Nat.ne_of_gt hzl)).trans hT
    have ru : RelV x u := item_K (b := b1) (a := a1) rv hu hx
    have ru2 : RelV y u2 := item_K (b := b2) (a := a2) rv2 hu2 hy
    have new : ObjOk X.prog X.w (upd H s.heap.objs.size (.tup [x, y])) h'' s.heap.objs.size (.tup [x, y]) :=
      ⟨by show 2 ≤ sizeLine; decide, [u, u2], .cons ru (.cons ru2 .nil), ⟨_, hT2, rfl, _, rfl⟩⟩
    have J1 : Inv X pins σ (upd H s.heap.objs.size (.tup [x, y])) { s with heap := h'', toks := tk } :=
      J.turnedNew (t' := tk) (ch := [z, TI, TO, i1, i2]) (fun c o hb q => (sb.2 c (fun q' => hb (by simp [q']))).trans (hk c o (fun q' => hb (by simp [q'])) (fun q' => hb (by simp [q'])) (fun q' => hb (by simp [q'])) (fun q' => hb (by simp [q'])) q)) hf (Nat.le_refl _) new
    refine ⟨.ref s.heap.objs.size, _, J1, rfl, ⟨_, x, y, rfl, J.hok.fresh (Nat.le_refl _), rfl, fun l hl => by rw [inj_K J hl hqx]; exact hx, fun l hl => by rw [inj_K J hl hqy]; exact hy⟩, ⟨z'', ?_, ⟨u, u2, ?_⟩, ?_, ?_⟩, fun c hcm => ?_⟩
    · exact (sb.2 _ S.TIz).trans (hk _ _ S.TIz S.TITO S.TIi1 S.TIi2 hTI)
    · exact (sb.2 _ S.TOz).trans TO'
    · exact st1.1.keep fun o q => (sb.2 _ S.zi1.symm).trans q
    · exact st2.1.keep fun o q => (sb.2 _ S.zi2.symm).trans q
    · have hlt : c < s.heap.objs.size := by
        have e' : c = z ∨ c = TI ∨ c = TO ∨ c = i1 ∨ c = i2 := by simpa using hcm
        rcases e' with q | q | q | q | q
        · rw [q]; exact hzl
        · rw [q]; exact Heap.lt_size hTI
        · rw [q]; exact Heap.lt_size hTO
        · rw [q]; obtain ⟨_, e1, _⟩ := h1.obj; exact Heap.lt_size e1
        · rw [q]; obtain ⟨_, e2, _⟩ := h2.obj; exact Heap.lt_size e2
      rw [upd_ne (Nat.ne_of_lt hlt)]
      exact (hf c hcm).1
  done := by
    rintro X rfl rfl rfl hc i pins s σ H E J hf ⟨hz, hTI, ⟨x0, y0, hTO⟩, h1, h2⟩ ⟨xs, ys, hqx, hqy, l1, l2, l3⟩
    obtain ⟨its, rv, isK, alt⟩ := seq_K J hqx
    obtain ⟨its2, rv2, isK2, alt2⟩ := seq_K J hqy
    have len := rv.length
    have len2 := rv2.length
    have es : i ≤ its.toArray.size := by
      rw [List.size_toArray]
      omega
    have es2 : i ≤ its2.toArray.size := by
      rw [List.size_toArray]
      omega
    have es3 : i = its.toArray.size ∨ i = its2.toArray.size := by
      rw [List.size_toArray, List.size_toArray]
      omega
    exact wpAny_pyNext_zipD2_end S (draw_K (A := X.A.in1) (J.ok.hd hc) b1 i1 a1 n1 its.toArray) (draw_K (A := X.A.in1) (J.ok.hd hc) b2 i2 a2 n2 its2.toArray) hz hTI hTO ⟨h1, isK⟩ ⟨h2, isK2⟩ es es2 es3 fun h' tk hk => ⟨rfl, J.turnedL (t' := tk) (ch := [z, TI, TO, i1, i2]) (fun c o hb q =>
      hk c o (fun q' => hb (by simp [q'])) (fun q' => hb (by simp [q'])) (fun q' => hb (by simp [q'])) (fun q' => hb (by simp [q'])) q) hf⟩
  self := fun A i s Q E st h => wpAny_pyIter_zip st.1 h
theorem not_two {x a b : Addr} (h1 : x ≠ a) (h2 : x ≠ b) : x ∉ [a, b] := by
  intro h
  rcases List.mem_cons.mp h with q | q
  · exact h1 q
  · exact h2 (List.mem_singleton.mp q)
theorem up {n k : Nat} (h : 0 < k) : ((n + k : Nat) : Addr) ≠ (n : Addr) := fun e => Nat.ne_of_gt (Nat.lt_add_of_pos_right h) e
theorem upa {n k a : Nat} (h : a < n) : ((n + k : Nat) : Addr) ≠ (a : Addr) := fun e => Nat.ne_of_gt (Nat.lt_of_lt_of_le h (Nat.le_add_right n k)) e
theorem ups {n j k : Nat} (h : j ≠ k) : ((n + j : Nat) : Addr) ≠ ((n + k : Nat) : Addr) := fun e => h (Nat.add_left_cancel e)
theorem zip_sep {n a1 a2 : Nat} (la : a1 < n) (lb : a2 < n) : ZipSep2 (n + 4) (n + 2) (n + 3) n (n + 1) [n, a1] [n + 1, a2] where
  TIz := ups (by decide)
  TOz := ups (by decide)
  TITO := ups (by decide)
  TIi1 := up (by decide)
  mem1 := by simp
  zf1 := not_two (up (by decide)) (upa la)
  Tf1 := not_two (up (by decide)) (upa la)
  TIi2 := ups (by decide)
  mem2 := by simp
  zf2 := not_two (ups (by decide)) (upa lb)
  Tf2 := not_two (ups (by decide)) (upa lb)
  sep1_2 := not_two (up (by decide)).symm (fun e => Nat.ne_of_gt lb e)
  sep2_1 := not_two (up (by decide)) (upa la)
def iZ (b1 b2 : Bool) (K : PySem.W.Frag) (ta : TA) : TI := fun σ H R => ta σ H fun vs H1 => ∃ a1 a2 xs ys, vs = [.ref a1, .ref a2] ∧ SqK b1 K H1 a1 xs ∧ SqK b2 K H1 a2 ys ∧ R (ItZ b1 b2 K a1 a2) H1
theorem pi_Z (b1 b2 : Bool) {X : Cx} {e e2 : Expr} {ta : TA} {p pos tpos : Pos} {elts : List Expr} {kk : Nat} (hg : Gl X "zip") (hm : X.mg "zip" = none) (ha : PA X [e, e2] ta)
    (hs : starEach [e, e2] X.env = (false, eval e X.env) :: starEach [e2] X.env := by rfl) (hpl : (backTo pos (starEach [e2] X.env)).any (·.1) = false := by rfl) :
    PI X (.Tuple elts kk tpos) (.Call (.Name "zip" p) [e, e2] [] pos) (iZ b1 b2 X.K ta) := by
  refine ⟨fun pins s σ H R I h => ?_⟩
  refine Call_ (ld_blt I hg hm PyProof.Rows.boot_zip (PyProof.Rows.callWith_type1 (thn (ha.run pos pins s σ H _ I h) fun us s1 ⟨vs, H1, I1, r1, q1⟩ => ?_) hs hpl))
  obtain ⟨a1, a2, xs, ys, rfl, hqx, hqy, q⟩ := q1
  cases r1 with
  | cons r rr =>
    cases rr with
    | cons r' rr =>
      cases rr
      cases r
      cases r'
      obtain ⟨its, rv, isK, la⟩ := seq_K I1 hqx
      obtain ⟨its2, rv2, isK2, lb⟩ := seq_K I1 hqy
      refine zip_begins2 (begin_K b1 a1 its.toArray) (begin_K b2 a2 its2.toArray) isK isK2 fun h' hz hTI hTO h1 h2 hsz hk => wpAny_pyIter_zip hz ?_
      have I2 : Inv X pins σ H1 { s1 with heap := h' } := I1.kept (t' := s1.toks) hk
      have S : ZipSep2 (s1.heap.objs.size + 4) (s1.heap.objs.size + 2) (s1.heap.objs.size + 3) s1.heap.objs.size (s1.heap.objs.size + 1) [s1.heap.objs.size, a1] [s1.heap.objs.size + 1, a2] := by
        exact zip_sep la lb
      refine ⟨s1.heap.objs.size + 4, [s1.heap.objs.size + 4, s1.heap.objs.size + 2, s1.heap.objs.size + 3, s1.heap.objs.size, s1.heap.objs.size + 1], _, _, H1, rfl, I2, turn_Z b1 b2 S (Nat.ne_of_lt la) (Nat.ne_of_lt (Nat.lt_succ_of_lt lb)), ⟨hz, hTI, ⟨_, _, hTO⟩, iter_K h1, iter_K h2⟩, fun c hcm => ?_, q⟩
      have e' : c = s1.heap.objs.size + 4 ∨ c = s1.heap.objs.size + 2 ∨ c = s1.heap.objs.size + 3 ∨ c = s1.heap.objs.size ∨ c = s1.heap.objs.size + 1 := by simpa using hcm
      have hle : s1.heap.objs.size ≤ c := by
        rcases e' with q | q | q | q | q
        · rw [q]; exact Nat.le_add_right _ _
        · rw [q]; exact Nat.le_add_right _ _
        · rw [q]; exact Nat.le_add_right _ _
        · rw [q]; exact Nat.le_refl _
        · rw [q]; exact Nat.le_add_right _ _
      exact I1.fpOk hle (I1.hok.fresh hle)
theorem walk_Z {b1 b2 : Bool} {K : PySem.W.Frag} {a1 a2 : Addr} {xs ys : List V} {n : Nat} (hn : n = min xs.length ys.length) : Walk (ItZ b1 b2 K a1 a2) n (fun H => SqK b1 K H a1 xs ∧ SqK b2 K H a2 ys) (YPair (fun i => xs[i]?) (fun i => ys[i]?)) := by
  subst hn
  refine ⟨fun i _ hi q => ?_, fun _ q => ⟨xs, ys, q.1, q.2, Nat.min_le_left _ _, Nat.min_le_right _ _, by omega⟩, fun i H v H' _ q y => ?_⟩
  · exact ⟨xs, ys, xs[i]'(by omega), ys[i]'(by omega), q.1, q.2, by simp, by simp⟩
  · obtain ⟨T, x, z, h1, h2, h3, h4, h5⟩ := y
    exact ⟨T, x, z, h1, h2, h3, h4 xs q.1, h5 ys q.2⟩
end G0

namespace G0
open PySem PySem.Spec PyProof.Rows L2
section
variable {X : Cx} {pos : Pos}
/-- (a, b, ..) = a list (true) or a tuple (false) of that length -/
def gSeq (k : Bool) (K : PySem.W.Frag) (n : Nat) (t : TGs) : TG := fun v σ H Q => ∃ a xs, v = .ref a ∧ SqK k K H a xs ∧ xs.length = n ∧ t xs σ H Q
theorem pg_seq (kd : Bool) {es : List Expr} {k : Nat} {t : TGs} {n : Nat} (hc : X.calm = true) (h : PGs X es t)
    (hn : (assignEach es X.env).length = n := by rfl) (hst : (assignEach es X.env).findIdx? (·.1) = none := by rfl) : PG X (.Tuple es k pos) (gSeq kd X.K n t) := by
  refine ⟨fun pins s σ H v u Q I r hw => ?_⟩
  obtain ⟨a, xs, rfl, hq, hl, hw⟩ := hw
  cases r
  cases kd with
  | false =>
    obtain ⟨its, rv, ht, hz⟩ := I.tuple hq
    refine assign_Tuple_tuple (I.ok.hd hc) ht (by simp [hn, ← hl, rv.length]) hst fun h' hx => ?_
    have I1 : Inv X pins σ H { s with heap := h' } := I.kept (t' := s.toks) fun b o e => hx b o (Nat.ne_of_lt (Heap.lt_size e)) e
    exact h.run pins _ σ H xs _ Q I1 (by simpa using rv) hw
  | true =>
    obtain ⟨its, rv, isK, la⟩ := seq_K (b := true) I hq
    rw [assign_Tuple]
    refine wpAny_bind (wpAny_standAt ?_)
    unfold unpack
    have e1 : (assignEach es X.env).length = its.toArray.size := by simp [hn, ← hl, rv.length]
    rw [e1, hst]
    refine wpAny_bind (wpAny_holding (PySem.W.kun_itemsOf (I.ok.hd hc) isK fun h' hx => ?_))
    have I1 : Inv X pins σ H { s with heap := h' } := I.kept (t' := s.toks) fun b o e => hx b o (Nat.ne_of_lt (Heap.lt_size e)) e
    exact h.run pins _ σ H xs _ Q I1 (by simpa using rv) hw
end
end G0

namespace G0
open PySem PySem.Spec PyProof.Rows L2
section
variable {K : PySem.W.Frag} {a : Addr} {xs : List V} {g : TG} {tt : TT} {te : TE} {vs : List Nat} {σ : L2.St} {H1 : Hp} {D : Addr} {Qd : Hp → Prop}
/-- a comprehension that adds F i for the i-th item -/
theorem lcI (F : Nat → V) (hl : SqL K H1 a xs) (hn : xs.length < sizeLine) (hD : H1 D = none) (t : ∀ i x, xs[i]? = some x → ∀ H, Same H1 H → ∀ (G : V → Hp → Prop) (N : Hp → Prop), (∀ H', Same H H' → G (F i) H') → g x (wipe σ vs) H fun σ2 H2 => wipe σ2 vs = wipe σ vs ∧ tt σ2 H2 fun b H3 => if b = true then te σ2 H3 G else N H3)
    (hd : ∀ H, Same H1 H → H D = some (.lst ((List.range' 0 xs.length).map F)) → Qd H) :
    ∃ W : Nat → Nat → Hp → Prop, (∃ m, W 0 m (upd H1 D (.lst []))) ∧ ∀ i m H, W i m H →
      ((Itl K a).stop i H ∧ Qd H) ∨ ((Itl K a).go i H ∧ ∃ Nx : Hp → Prop, (∀ H', Nx H' → ∃ m', m' < m ∧ W (i + 1) m' H') ∧ ∀ x H', (Itl K a).yld i H x H' → g x (wipe σ vs) H' fun σ2 H2 => wipe σ2 vs = wipe σ vs ∧ tt σ2 H2 fun b H3 =>
        if b = true then te σ2 H3 fun y H4 => ∃ acc, H4 D = some (.lst acc) ∧ acc.length < sizeLine ∧ Nx (upd H4 D (.lst (acc ++ [y]))) else Nx H3) :=
  lc_list (xs := xs) (fun i H => Same H1 H ∧ H D = some (.lst ((List.range' 0 i).map F))) ⟨same_new hD, upd_same⟩ (fun _ _ _ h => h.1.seq hl)
    (fun i x H hx h => t i x hx H h.1 _ _ fun H' s => by
      have hi := (List.getElem?_eq_some_iff.mp hx).1
      refine ⟨_, s _ _ h.2, ?_, fun b o eb => ?_, ?_⟩
      · rw [List.length_map, List.length_range']
        omega
      · rw [upd_ne (ne_of_none eb hD)]
        exact (h.1.trans s) _ _ eb
      · rw [upd_same, List.range'_concat, List.map_append]
        simp) (fun H h => hd H h.1 h.2)
/-- a comprehension over a tuple -/
theorem lcIT (F : Nat → V) (hl : SqT K H1 a xs) (hn : xs.length < sizeLine) (hD : H1 D = none) (t : ∀ i x, xs[i]? = some x → ∀ H, Same H1 H → ∀ (G : V → Hp → Prop) (N : Hp → Prop), (∀ H', Same H H' → G (F i) H') → g x (wipe σ vs) H fun σ2 H2 => wipe σ2 vs = wipe σ vs ∧ tt σ2 H2 fun b H3 => if b = true then te σ2 H3 G else N H3)
    (hd : ∀ H, Same H1 H → H D = some (.lst ((List.range' 0 xs.length).map F)) → Qd H) :
    ∃ W : Nat → Nat → Hp → Prop, (∃ m, W 0 m (upd H1 D (.lst []))) ∧ ∀ i m H, W i m H →
      ((Itt K a).stop i H ∧ Qd H) ∨ ((Itt K a).go i H ∧ ∃ Nx : Hp → Prop, (∀ H', Nx H' → ∃ m', m' < m ∧ W (i + 1) m' H') ∧ ∀ x H', (Itt K a).yld i H x H' → g x (wipe σ vs) H' fun σ2 H2 => wipe σ2 vs = wipe σ vs ∧ tt σ2 H2 fun b H3 =>
        if b = true then te σ2 H3 fun y H4 => ∃ acc, H4 D = some (.lst acc) ∧ acc.length < sizeLine ∧ Nx (upd H4 D (.lst (acc ++ [y]))) else Nx H3) :=
  lc_tup (xs := xs) (fun i H => Same H1 H ∧ H D = some (.lst ((List.range' 0 i).map F))) ⟨same_new hD, upd_same⟩ (fun _ _ _ h => same_t h.1 hl)
    (fun i x H hx h => t i x hx H h.1 _ _ fun H' s => by
      have hi := (List.getElem?_eq_some_iff.mp hx).1
      refine ⟨_, s _ _ h.2, ?_, fun b o eb => ?_, ?_⟩
      · rw [List.length_map, List.length_range']
        omega
      · rw [upd_ne (ne_of_none eb hD)]
        exact (h.1.trans s) _ _ eb
      · rw [upd_same, List.range'_concat, List.map_append]
        simp) (fun H h => hd H h.1 h.2)
end
end G0

namespace G0
open PySem PySem.Spec PyProof.Rows L2
/-- over what is a list or a tuple, as it comes -/
def iAny (K : PySem.W.Frag) (tl : TE) : TI := fun σ H R => iList K tl σ H R ∨ iTup K tl σ H R
theorem pi_any {X : Cx} {tg l : Expr} {tl : TE} (hl : PE X l tl) : PI X tg l (iAny X.K tl) :=
  ⟨fun pins s σ H R I h => h.elim (fun h => (pi_list hl).run pins s σ H R I h) (fun h => (pi_tup hl).run pins s σ H R I h)⟩
end G0

namespace VE
open PySem PySem.Spec PyProof.Rows L2 G0
/-! ### data -/
/-- the types that a text may name -/
inductive TyN where
  | int | bool | list | tuple | str | dict | set | range | none | float
def TyN.s : TyN → String
  | .int => "int"
  | .bool => "bool"
  | .list => "list"
  | .tuple => "tuple"
  | .str => "str"
  | .dict => "dict"
  | .set => "set"
  | .range => "range"
  | .none => "NoneType"
  | .float => "float"
inductive D where
  | non | bl (b : Bool) | int (i : Int) | str (x : Str) | ty (n : TyN) | cls (C : Str)
  | lst (xs : List D) | tup (xs : List D)
  | dK (kvs : List (Key × D)) | dT (kvs : List (List Key × D)) | fT (kvs : List (List Key × D))
  | obj (C : Str) (fs : List (Str × D))
  | rng (lo hi : Int)
abbrev Mg := Str → Option Value
/-- a dict's size, and its keys' -/
def Sized (kvs : List (List Key × V)) : Prop := kvs.length ≤ sizeLine ∧ ∀ p ∈ kvs, p.1.length ≤ sizeLine
/-- a tuple that stands: tracked -/
def TupR (_K : PySem.W.Frag) (H : Hp) (a : Addr) (xs : List V) : Prop := H a = some (.tup xs)
/-- a list that stands: tracked, or of the written part -/
def LstR (K : PySem.W.Frag) (H : Hp) (a : Addr) (xs : List V) : Prop := Rd H a (.lst xs) ∨
    ∃ (its : Array Value) (n : Nat), K.lookup a = some { cls := .type "list", data := .seq its n } ∧ its.size ≤ sizeLine ∧ Vals xs its.toList
theorem LstR.sq {K : PySem.W.Frag} {H : Hp} {a : Addr} {xs : List V} (h : LstR K H a xs) : SqL K H a xs := h.imp id fun ⟨its, n, h1, h2, h3⟩ => ⟨_, its, n, h1, rfl, rfl, rfl, h2, h3⟩
theorem TupR.sq {K : PySem.W.Frag} {H : Hp} {a : Addr} {xs : List V} (h : TupR K H a xs) : SqT K H a xs := .inl (.inl h)
theorem TupR.same {K : PySem.W.Frag} {H H' : Hp} {a : Addr} {xs : List V} (s : Same H H') (h : TupR K H a xs) : TupR K H' a xs := s _ _ h
mutual
inductive Rep (K : PySem.W.Frag) (mg : Mg) (H : Hp) : V → D → Prop where
  | non : Rep K mg H .non .non
  | bl (b : Bool) : Rep K mg H (.bl b) (.bl b)
  | int (i : Int) : Rep K mg H (.int i) (.int i)
  | str (x : Str) : Rep K mg H (.str x) (.str x)
  | ty (n : TyN) : Rep K mg H (.ty n.s) (.ty n)
  | cls {C : Str} {c : Addr} : mg C = some (.ref c) → Rep K mg H (.ref c) (.cls C)
  | lst {a : Addr} {vs : List V} {ds : List D} : LstR K H a vs → vs.length ≤ sizeLine → Reps K mg H vs ds → Rep K mg H (.ref a) (.lst ds)
  | tup {a : Addr} {vs : List V} {ds : List D} : TupR K H a vs → vs.length ≤ sizeLine → Reps K mg H vs ds → Rep K mg H (.ref a) (.tup ds)
  | dK {a : Addr} {kvs : List (Key × V)} {kds : List (Key × D)} : H a = some (.dK kvs) → RepK K mg H kvs kds → Rep K mg H (.ref a) (.dK kds)
  | dT {a : Addr} {kvs : List (List Key × V)} {kds : List (List Key × D)} : H a = some (.dT kvs) → RepK K mg H kvs kds → Rep K mg H (.ref a) (.dT kds)
  | fT {a : Addr} {o : Obj} {kvs : List (List Key × V)} {kds : List (List Key × D)} : H a = some (.frz o (.dT kvs)) → Sized kvs → RepK K mg H kvs kds → Rep K mg H (.ref a) (.fT kds)
  | obj {a c dx : Addr} {C : Str} {fs : List (Str × V)} {ds : List (Str × D)} : H a = some (.ins c dx fs) → mg C = some (.ref c) → RepK K mg H fs ds → Rep K mg H (.ref a) (.obj C ds)
  | rng {a : Addr} {lo hi : Int} : H a = some (.rng lo hi) → Rep K mg H (.ref a) (.rng lo hi)
inductive Reps (K : PySem.W.Frag) (mg : Mg) (H : Hp) : List V → List D → Prop where
  | nil : Reps K mg H [] []
  | cons {v : V} {vs : List V} {d : D} {ds : List D} : Rep K mg H v d → Reps K mg H vs ds → Reps K mg H (v :: vs) (d :: ds)
inductive RepK (K : PySem.W.Frag) (mg : Mg) (H : Hp) : {κ : Type} → List (κ × V) → List (κ × D) → Prop where
  | nil {κ : Type} : RepK K mg H (κ := κ) [] []
  | cons {κ : Type} {k : κ} {v : V} {kvs : List (κ × V)} {d : D} {kds : List (κ × D)} : Rep K mg H v d → RepK K mg H kvs kds → RepK K mg H ((k, v) :: kvs) ((k, d) :: kds)
end
theorem Rd.same {H H' : Hp} {a : Addr} {u : HO} (s : Same H H') (h : Rd H a u) : Rd H' a u := h.elim (fun h => .inl (s _ _ h)) fun ⟨o, h⟩ => .inr ⟨o, s _ _ h⟩
theorem LstR.same {K : PySem.W.Frag} {H H' : Hp} {a : Addr} {xs : List V} (s : Same H H') (h : LstR K H a xs) : LstR K H' a xs := h.imp (Rd.same s) id
section
variable {K : PySem.W.Frag} {mg : Mg} {H H' : Hp}
mutual
theorem Rep.same (s : Same H H') : ∀ {v : V} {d : D}, Rep K mg H v d → Rep K mg H' v d
  | _, _, .non => .non
  | _, _, .bl b => .bl b
  | _, _, .int i => .int i
  | _, _, .str x => .str x
  | _, _, .ty n => .ty n
  | _, _, .cls h => .cls h
  | _, _, .lst h z r => .lst (LstR.same s h) z (Reps.same s r)
  | _, _, .tup h z r => .tup (TupR.same s h) z (Reps.same s r)
  | _, _, .dK h r => .dK (s _ _ h) (RepK.same s r)
  | _, _, .dT h r => .dT (s _ _ h) (RepK.same s r)
  | _, _, .fT h z r => .fT (s _ _ h) z (RepK.same s r)
  | _, _, .obj h c r => .obj (s _ _ h) c (RepK.same s r)
  | _, _, .rng h => .rng (s _ _ h)
theorem Reps.same (s : Same H H') : ∀ {vs : List V} {ds : List D}, Reps K mg H vs ds → Reps K mg H' vs ds
  | _, _, .nil => .nil
  | _, _, .cons h r => .cons (Rep.same s h) (Reps.same s r)
theorem RepK.same (s : Same H H') : ∀ {κ : Type} {vs : List (κ × V)} {ds : List (κ × D)}, RepK K mg H vs ds → RepK K mg H' vs ds
  | _, _, _, .nil => .nil
  | _, _, _, .cons h r => .cons (Rep.same s h) (RepK.same s r)
end
theorem Reps.length : ∀ {vs : List V} {ds : List D}, Reps K mg H vs ds → vs.length = ds.length
  | _, _, .nil => rfl
  | _, _, .cons _ r => congrArg (· + 1) r.length
theorem Reps.get : ∀ {vs : List V} {ds : List D} {i : Nat} {v : V}, Reps K mg H vs ds → vs[i]? = some v → ∃ d, ds[i]? = some d ∧ Rep K mg H v d
  | _, _, _, _, .nil, e => by simp at e
  | _, _, 0, _, .cons h _, e => by simp at e; subst e; exact ⟨_, rfl, h⟩
  | _, _, i + 1, _, .cons _ r, e => by
    obtain ⟨d, h1, h2⟩ := Reps.get (i := i) r (by simpa using e)
    exact ⟨d, by simpa using h1, h2⟩
theorem Reps.getD : ∀ {vs : List V} {ds : List D} {i : Nat} {d : D}, Reps K mg H vs ds → ds[i]? = some d → ∃ v, vs[i]? = some v ∧ Rep K mg H v d
  | _, _, _, _, .nil, e => by simp at e
  | _, _, 0, _, .cons h _, e => by simp at e; subst e; exact ⟨_, rfl, h⟩
  | _, _, i + 1, _, .cons _ r, e => by
    obtain ⟨d, h1, h2⟩ := Reps.getD (i := i) r (by simpa using e)
    exact ⟨d, by simpa using h1, h2⟩
theorem Reps.append : ∀ {vs ws : List V} {ds es : List D}, Reps K mg H vs ds → Reps K mg H ws es → Reps K mg H (vs ++ ws) (ds ++ es)
  | _, _, _, _, .nil, r => r
  | _, _, _, _, .cons h t, r => .cons h (Reps.append t r)
theorem Reps.take : ∀ {vs : List V} {ds : List D} (n : Nat), Reps K mg H vs ds → Reps K mg H (vs.take n) (ds.take n)
  | _, _, 0, _ => .nil
  | _, _, _ + 1, .nil => .nil
  | _, _, n + 1, .cons h r => .cons h (Reps.take n r)
theorem Reps.drop : ∀ {vs : List V} {ds : List D} (n : Nat), Reps K mg H vs ds → Reps K mg H (vs.drop n) (ds.drop n)
  | _, _, 0, r => r
  | _, _, _ + 1, .nil => .nil
  | _, _, n + 1, .cons _ r => Reps.drop n r
theorem Reps.set : ∀ {vs : List V} {ds : List D} (n : Nat) {v : V} {d : D}, Reps K mg H vs ds → Rep K mg H v d → Reps K mg H (vs.set n v) (ds.set n d)
  | _, _, _, _, _, .nil, _ => .nil
  | _, _, 0, _, _, .cons _ r, h => .cons h r
  | _, _, n + 1, _, _, .cons h r, h' => .cons h (Reps.set n r h')
theorem Reps.reverse : ∀ {vs : List V} {ds : List D}, Reps K mg H vs ds → Reps K mg H vs.reverse ds.reverse
  | _, _, .nil => .nil
  | _, _, .cons h r => by
    rw [List.reverse_cons, List.reverse_cons]
    exact (Reps.reverse r).append (.cons h .nil)
end

/-! ### what a slot holds -/
inductive Ob where
  | lst (xs : List D) | dK (kvs : List (Key × D)) | dT (kvs : List (List Key × D)) | ins (C : Str) (fs : List (Str × D))
def Ob.d : Ob → D
  | .lst xs => .lst xs
  | .dK kvs => .dK kvs
  | .dT kvs => .dT kvs
  | .ins C fs => .obj C fs
inductive Slot where
  | val (d : D) | own (o : Ob) | par (o : Ob)
abbrev Rho := List (Option Slot)
/-- an expression's value: data that stay; an own new object; the object that the i-th slot owns -/
inductive RV where
  | val (d : D) | own (o : Ob) | pl (i : Nat)
inductive Res (α : Type) where
  | ok (a : α) (ρ : Rho)
  | exc (C : Str) (fs : Option (List (Str × D))) (ρ : Rho)
  | bad
abbrev M (α : Type) := Rho → Res α
def M.bind {α β : Type} (m : M α) (f : α → M β) : M β := fun ρ => match m ρ with
  | .ok a ρ' => f a ρ'
  | .exc C fs ρ' => .exc C fs ρ'
  | .bad => .bad
def M.ret {α : Type} (a : α) : M α := fun ρ => .ok a ρ
inductive RepO (K : PySem.W.Frag) (mg : Mg) (F : Hp) : Ob → HO → Prop where
  | lst {vs : List V} {xs : List D} : vs.length ≤ sizeLine → Reps K mg F vs xs → RepO K mg F (.lst xs) (.lst vs)
  | dK {vs : List (Key × V)} {xs : List (Key × D)} : RepK K mg F vs xs → RepO K mg F (.dK xs) (.dK vs)
  | dT {vs : List (List Key × V)} {xs : List (List Key × D)} : RepK K mg F vs xs → RepO K mg F (.dT xs) (.dT vs)
  | ins {C : Str} {c dx : Addr} {vs : List (Str × V)} {fs : List (Str × D)} : mg C = some (.ref c) → RepK K mg F vs fs → RepO K mg F (.ins C fs) (.ins c dx vs)
section
variable {K : PySem.W.Frag} {mg : Mg}
theorem RepO.same {F F' : Hp} {o : Ob} {u : HO} (s : Same F F') (h : RepO K mg F o u) : RepO K mg F' o u := by
  cases h with
  | lst z r => exact .lst z (r.same s)
  | dK r => exact .dK (r.same s)
  | dT r => exact .dT (r.same s)
  | ins m r => exact .ins m (r.same s)
/-- an object is there, and stays from now on -/
theorem RepO.rep {F H : Hp} {o : Ob} {u : HO} {a : Addr} (h : RepO K mg F o u) (s : Same F H) (e : H a = some u) : Rep K mg H (.ref a) o.d := by
  cases h with
  | lst z r => exact .lst (.inl (.inl e)) z (r.same s)
  | dK r => exact .dK e (r.same s)
  | dT r => exact .dT e (r.same s)
  | ins m r => exact .obj e m (r.same s)
end

/-- the entry of a def: what stood, what stays, which objects the parameters lend -/
structure Bs where
  F : Hp
  H : Hp
  par : Nat → Option Addr
/-- something else than a tuple -/
def Nt : Option HO → Prop
  | none => False
  | some (.tup _) => False
  | some _ => True
theorem Nt.ne {x : Option HO} (h : Nt x) : x ≠ none := by rintro rfl; exact h
def SlotR (K : PySem.W.Frag) (mg : Mg) (B : Bs) (F H : Hp) (i : Nat) (v : V) : Slot → Prop
  | .val d => Rep K mg F v d
  | .own o => ∃ a u, v = .ref a ∧ B.H a = none ∧ F a = none ∧ H a = some u ∧ RepO K mg F o u
  | .par o => ∃ a u, v = .ref a ∧ B.par i = some a ∧ F a = none ∧ H a = some u ∧ RepO K mg F o u
structure SR (K : PySem.W.Frag) (mg : Mg) (B : Bs) (F : Hp) (σ : L2.St) (H : Hp) (ρ : Rho) : Prop where
  len : ρ.length = σ.length
  same : Same F H
  ent : Same B.F F
  away : ∀ a, Nt (B.H a) → B.F a = none → F a = none
  keep : ∀ a u, B.H a = some u → (∀ i, B.par i ≠ some a) → H a = some u
  pth : ∀ i a, B.par i = some a → B.H a ≠ none ∧ B.F a = none ∧ Nt (H a)
  pinj : ∀ i j a, B.par i = some a → B.par j = some a → i = j
  slot : ∀ (i : Nat) (s : Slot), ρ[i]? = some (some s) → ∃ v, σ[i]? = some (some v) ∧ SlotR K mg B F H i v s
  sep : ∀ (i j : Nat) (o o' : Ob) (a : Addr), ρ[i]? = some (some (.own o)) → ρ[j]? = some (some (.own o')) → σ[i]? = some (some (.ref a)) → σ[j]? = some (some (.ref a)) → i = j
/-- an expression's value as it stands -/
def RVR (K : PySem.W.Frag) (mg : Mg) (B : Bs) (F H : Hp) (σ : L2.St) (ρ : Rho) (v : V) : RV → Prop
  | .val d => Rep K mg F v d
  | .own o => ∃ p u, v = .ref p ∧ B.H p = none ∧ F p = none ∧ H p = some u ∧ RepO K mg F o u ∧ ∀ (i : Nat) (o' : Ob), ρ[i]? = some (some (.own o')) → σ[i]? ≠ some (some (.ref p))
  | .pl i => σ[i]? = some (some v) ∧ ∃ s, ρ[i]? = some (some s)
/-- the readings -/
def outE (K : PySem.W.Frag) (mg : Mg) (W : WX) (B : Bs) (F : Hp) (σ : L2.St) (C : Str) (fs : Option (List (Str × D))) (ρ' : Rho) : Prop :=
  ∀ c F' H', mg C = some (.ref c) → SR K mg B F' σ H' ρ' → Same F F' → match fs with
    | none => W (.ref c) none σ H'
    | some ds => ∀ d vs, H' d = some (.xd vs) → RepK K mg F' vs ds → W (.ref c) (some d) σ H'
/-- what comes of a run: its end, or what leaves it -/
def outcome {α : Type} (K : PySem.W.Frag) (mg : Mg) (W : WX) (B : Bs) (F : Hp) (σ : L2.St) (m : Res α) (k : α → Rho → Prop) : Prop := match m with
  | .ok a ρ' => k a ρ'
  | .exc C fs ρ' => outE K mg W B F σ C fs ρ'
  | .bad => False
def tV (K : PySem.W.Frag) (mg : Mg) (W : WX) (f : M RV) : TE := fun σ H Q => ∃ B F ρ, SR K mg B F σ H ρ ∧ outcome K mg W B F σ (f ρ) fun r ρ' => ∀ v H' F', SR K mg B F' σ H' ρ' → Same F F' → RVR K mg B F' H' σ ρ' v r → Q v H'
structure VE (X : Cx) (e : Expr) (f : M RV) : Prop where
  run : ∀ W, Takes X W → PE X e (tV X.K X.mg W f)
/-- a test -/
def tVT (K : PySem.W.Frag) (mg : Mg) (W : WX) (f : M Bool) : TT := fun σ H Q => ∃ B F ρ, SR K mg B F σ H ρ ∧ outcome K mg W B F σ (f ρ) fun r ρ' => ∀ H' F', SR K mg B F' σ H' ρ' → Same F F' → Q r H'
structure VT (X : Cx) (e : Expr) (f : M Bool) : Prop where
  run : ∀ W, Takes X W → PT X e (tVT X.K X.mg W f)
structure VW (X : Cx) (e : Expr) (f : M Bool) : Prop where
  run : ∀ W, Takes X W → PW X e (tVT X.K X.mg W f)
/-- values kept while the next ones are asked -/
def RVh (K : PySem.W.Frag) (mg : Mg) (F : Hp) (σ : L2.St) (v : V) : RV → Prop
  | .val d => Rep K mg F v d
  | .own _ => False
  | .pl i => σ[i]? = some (some v)
inductive RVs (K : PySem.W.Frag) (mg : Mg) (F : Hp) (σ : L2.St) : List V → List RV → Prop where
  | nil : RVs K mg F σ [] []
  | cons {v : V} {vs : List V} {r : RV} {rs : List RV} : RVh K mg F σ v r → RVs K mg F σ vs rs → RVs K mg F σ (v :: vs) (r :: rs)
def tVA (K : PySem.W.Frag) (mg : Mg) (W : WX) (f : M (List RV)) : TA := fun σ H Q => ∃ B F ρ, SR K mg B F σ H ρ ∧ outcome K mg W B F σ (f ρ) fun rs ρ' => ∀ vs H' F', SR K mg B F' σ H' ρ' → Same F F' → RVs K mg F' σ vs rs → Q vs H'
structure VA (X : Cx) (es : List Expr) (f : M (List RV)) : Prop where
  run : ∀ W, Takes X W → PA X es (tVA X.K X.mg W f)
inductive Flow where
  | nx | rt (r : RV) | bk | ct
/-- statements -/
def outS (K : PySem.W.Frag) (mg : Mg) (W : WX) (B : Bs) (F : Hp) (C : Str) (fs : Option (List (Str × D))) (ρ' : Rho) : Prop :=
  ∀ c F' σ' H', mg C = some (.ref c) → SR K mg B F' σ' H' ρ' → Same F F' → match fs with
    | none => W (.ref c) none σ' H'
    | some ds => ∀ d vs, H' d = some (.xd vs) → RepK K mg F' vs ds → W (.ref c) (some d) σ' H'
def outcS (K : PySem.W.Frag) (mg : Mg) (W : WX) (B : Bs) (F : Hp) (m : Res Flow) (k : Flow → Rho → Prop) : Prop := match m with
  | .ok a ρ' => k a ρ'
  | .exc C fs ρ' => outS K mg W B F C fs ρ'
  | .bad => False
def ends (K : PySem.W.Frag) (mg : Mg) (B : Bs) (F : Hp) (De : Ends) : Flow → Rho → Prop
  | .nx, ρ' => ∀ σ' H' F', SR K mg B F' σ' H' ρ' → Same F F' → De.nx σ' H'
  | .bk, ρ' => ∀ σ' H' F', SR K mg B F' σ' H' ρ' → Same F F' → De.bk σ' H'
  | .ct, ρ' => ∀ σ' H' F', SR K mg B F' σ' H' ρ' → Same F F' → De.ct σ' H'
  | .rt r, ρ' => ∀ v σ' H' F', SR K mg B F' σ' H' ρ' → Same F F' → RVR K mg B F' H' σ' ρ' v r → De.rt v H'
def tVS (K : PySem.W.Frag) (mg : Mg) (W : WX) (f : M Flow) : TS := fun De σ H => ∃ B F ρ, SR K mg B F σ H ρ ∧ outcS K mg W B F (f ρ) (ends K mg B F De)
structure VS (X : Cx) (st : Stmt) (f : M Flow) : Prop where
  run : ∀ W, Takes X W → PS X st (tVS X.K X.mg W f)
structure VSs (X : Cx) (st : List Stmt) (f : M Flow) : Prop where
  run : ∀ W, Takes X W → PSs X st (tVS X.K X.mg W f)
end VE

namespace VE
open PySem PySem.Spec PyProof.Rows L2 G0
theorem _root_.L2.PE.imp {X : Cx} {e : Expr} {t t' : TE} (h : PE X e t) (i : ∀ σ H Q, t' σ H Q → t σ H Q) : PE X e t' := ⟨fun pins s σ H Q I q => h.run pins s σ H Q I (i σ H Q q)⟩
theorem _root_.L2.PT.imp {X : Cx} {e : Expr} {t t' : TT} (h : PT X e t) (i : ∀ σ H Q, t' σ H Q → t σ H Q) : PT X e t' := ⟨fun pins s σ H Q I q => h.run pins s σ H Q I (i σ H Q q)⟩
theorem _root_.L2.PW.imp {X : Cx} {e : Expr} {t t' : TT} (h : PW X e t) (i : ∀ σ H Q, t' σ H Q → t σ H Q) : PW X e t' := ⟨fun wh pins s σ H Q I q => h.run wh pins s σ H Q I (i σ H Q q)⟩
theorem _root_.L2.PA.imp {X : Cx} {e : List Expr} {t t' : TA} (h : PA X e t) (i : ∀ σ H Q, t' σ H Q → t σ H Q) : PA X e t' := ⟨fun po pins s σ H Q I q => h.run po pins s σ H Q I (i σ H Q q)⟩
theorem _root_.L2.PS.imp {X : Cx} {e : Stmt} {t t' : TS} (h : PS X e t) (i : ∀ σ H Q, t' Q σ H → t Q σ H) : PS X e t' := ⟨fun pins s σ H Q I q => h.run pins s σ H Q I (i σ H Q q)⟩
theorem _root_.L2.PSs.imp {X : Cx} {e : List Stmt} {t t' : TS} (h : PSs X e t) (i : ∀ σ H Q, t' Q σ H → t Q σ H) : PSs X e t' := ⟨fun pins s σ H Q I q => h.run pins s σ H Q I (i σ H Q q)⟩

section
variable {K : PySem.W.Frag} {mg : Mg} {W : WX} {B : Bs} {F F' H H' : Hp} {σ : L2.St} {ρ : Rho}
theorem outE.mono {C : Str} {fs : Option (List (Str × D))} {ρ' : Rho} (s : Same F F') (h : outE K mg W B F σ C fs ρ') : outE K mg W B F' σ C fs ρ' := fun c F'' H'' e sr s' => h c F'' H'' e sr (s.trans s')
theorem outS.mono {C : Str} {fs : Option (List (Str × D))} {ρ' : Rho} (s : Same F F') (h : outS K mg W B F C fs ρ') : outS K mg W B F' C fs ρ' := fun c F'' σ'' H'' e sr s' => h c F'' σ'' H'' e sr (s.trans s')
theorem outS.outE {C : Str} {fs : Option (List (Str × D))} {ρ' : Rho} (h : outS K mg W B F C fs ρ') : outE K mg W B F σ C fs ρ' := fun c F'' H'' e sr s' => h c F'' σ H'' e sr s'
theorem outcome.imp {α : Type} {m : Res α} {k k' : α → Rho → Prop} (h : outcome K mg W B F σ m k) (i : ∀ a ρ', k a ρ' → k' a ρ') : outcome K mg W B F σ m k' := by
  cases m with
  | ok a ρ' => exact i a ρ' h
  | exc C fs ρ' => exact h
  | bad => exact h
theorem outcome.mono {α : Type} {m : Res α} {k : α → Rho → Prop} (s : Same F F') (h : outcome K mg W B F σ m k) : outcome K mg W B F' σ m k := by
  cases m with
  | ok a ρ' => exact h
  | exc C fs ρ' => exact outE.mono s h
  | bad => exact h
theorem outcome.bind {α β : Type} {m : M α} {g : α → M β} {k : β → Rho → Prop} (h : outcome K mg W B F σ (M.bind m g ρ) k) : outcome K mg W B F σ (m ρ) fun a ρ' => outcome K mg W B F σ (g a ρ') k := by
  unfold M.bind at h
  cases e : m ρ with
  | ok a ρ' => rw [e] at h; exact h
  | exc C fs ρ' => rw [e] at h; exact h
  | bad => rw [e] at h; exact h
theorem outcS.imp {m : Res Flow} {k k' : Flow → Rho → Prop} (h : outcS K mg W B F m k) (i : ∀ a ρ', k a ρ' → k' a ρ') : outcS K mg W B F m k' := by
  cases m with
  | ok a ρ' => exact i a ρ' h
  | exc C fs ρ' => exact h
  | bad => exact h
theorem outcS.mono {m : Res Flow} {k : Flow → Rho → Prop} (s : Same F F') (h : outcS K mg W B F m k) : outcS K mg W B F' m k := by
  cases m with
  | ok a ρ' => exact h
  | exc C fs ρ' => exact outS.mono s h
  | bad => exact h
theorem ends.mono {De : Ends} {f : Flow} {ρ' : Rho} (s : Same F F') (h : ends K mg B F De f ρ') : ends K mg B F' De f ρ' := by
  cases f with
  | nx => exact fun σ' H' F'' sr s' => h σ' H' F'' sr (s.trans s')
  | bk => exact fun σ' H' F'' sr s' => h σ' H' F'' sr (s.trans s')
  | ct => exact fun σ' H' F'' sr s' => h σ' H' F'' sr (s.trans s')
  | rt r => exact fun v σ' H' F'' sr s' => h v σ' H' F'' sr (s.trans s')
/-- an expression, then a statement's rest -/
theorem outcS.bind {α : Type} {m : M α} {g : α → M Flow} {k : Flow → Rho → Prop} (h : outcS K mg W B F (M.bind m g ρ) k) : outcome K mg W B F σ (m ρ) fun a ρ' => outcS K mg W B F (g a ρ') k := by
  unfold M.bind at h
  cases e : m ρ with
  | ok a ρ' => rw [e] at h; exact h
  | exc C fs ρ' => rw [e] at h; exact outS.outE h
  | bad => rw [e] at h; exact h

/-! ### the state's relation -/
theorem SR.there (sr : SR K mg B F σ H ρ) {a : Addr} (h : B.H a ≠ none) : H a ≠ none := by
  by_cases p : ∃ i, B.par i = some a
  · obtain ⟨i, p⟩ := p
    exact (sr.pth i a p).2.2.ne
  · cases e : B.H a with
    | none => exact absurd e h
    | some u =>
      rw [sr.keep a u e fun i z => p ⟨i, z⟩]
      exact fun z => nomatch z
theorem SR.thereN (sr : SR K mg B F σ H ρ) {a : Addr} (h : Nt (B.H a)) : Nt (H a) := by
  by_cases p : ∃ i, B.par i = some a
  · obtain ⟨i, p⟩ := p
    exact (sr.pth i a p).2.2
  · cases e : B.H a with
    | none => exact absurd e h.ne
    | some u =>
      rw [sr.keep a u e fun i z => p ⟨i, z⟩, ← e]
      exact h
theorem RepO.nt {F : Hp} {o : Ob} {u : HO} (h : RepO K mg F o u) : Nt (some u) := by
  cases h <;> exact True.intro
theorem SR.fresh (sr : SR K mg B F σ H ρ) {a : Addr} (h : H a = none) : B.H a = none := by
  cases e : B.H a with
  | none => rfl
  | some u => exact absurd h (sr.there (by rw [e]; exact fun z => nomatch z))
theorem SR.freeF (sr : SR K mg B F σ H ρ) {a : Addr} (h : H a = none) : F a = none := sr.same.free h
theorem SR.ext (sr : SR K mg B F σ H ρ) (sF : Same F F') (sH : Same H H') (sFH : Same F' H') (aw : ∀ a, Nt (H a) → F a = none → F' a = none) : SR K mg B F' σ H' ρ where
  len := sr.len
  same := sFH
  ent := sr.ent.trans sF
  away := fun a h f => aw a (sr.thereN h) (sr.away a h f)
  keep := fun a u e p => sH _ _ (sr.keep a u e p)
  pth := fun i a p => by
    obtain ⟨h1, h2, h3⟩ := sr.pth i a p
    refine ⟨h1, h2, ?_⟩
    cases e : H a with
    | none => exact absurd e h3.ne
    | some u => rw [sH _ _ e, ← e]; exact h3
  pinj := sr.pinj
  slot := fun i s e => by
    obtain ⟨v, e1, h⟩ := sr.slot i s e
    refine ⟨v, e1, ?_⟩
    cases s with
    | val d => exact Rep.same sF h
    | own o =>
      obtain ⟨a, u, rfl, h1, h2, h3, h4⟩ := h
      exact ⟨a, u, rfl, h1, aw a (by rw [h3]; exact h4.nt) h2, sH _ _ h3, h4.same sF⟩
    | par o =>
      obtain ⟨a, u, rfl, h1, h2, h3, h4⟩ := h
      exact ⟨a, u, rfl, h1, aw a (by rw [h3]; exact h4.nt) h2, sH _ _ h3, h4.same sF⟩
  sep := sr.sep
theorem upd_off {H : Hp} {a p : Addr} {u : HO} {x : Option HO} (n : a ≠ p) (h : H a = x) : upd H p u a = x := (upd_ne n).trans h
theorem same_upd2 {F H : Hp} {p : Addr} {u : HO} (s : Same F H) : Same (upd F p u) (upd H p u) := fun b o e => by
  by_cases eb : b = p
  · subst eb
    rw [upd_same] at e ⊢
    exact e
  · rw [upd_ne eb] at e ⊢
    exact s _ _ e
/-- a new object that stays -/
theorem SR.put {p : Addr} {u : HO} (sr : SR K mg B F σ H ρ) (hp : H p = none) : SR K mg B (upd F p u) σ (upd H p u) ρ :=
  sr.ext (same_new (sr.freeF hp)) (same_new hp) (same_upd2 sr.same) fun a h f => upd_off (by rintro rfl; exact h.ne hp) f
/-- a new object -/
theorem SR.new {p : Addr} {u : HO} (sr : SR K mg B F σ H ρ) (hp : H p = none) : SR K mg B F σ (upd H p u) ρ :=
  sr.ext (Same.refl _) (same_new hp) (sr.same.trans (same_new hp)) fun a h f => f
/-- an own object stays from now on -/
theorem SR.frz {p : Addr} {u : HO} (sr : SR K mg B F σ H ρ) (hb : B.H p = none) (hf : F p = none) (hp : H p = some u) (no : ∀ (i : Nat) (o' : Ob), ρ[i]? = some (some (.own o')) → σ[i]? ≠ some (some (.ref p))) : SR K mg B (upd F p u) σ H ρ where
  len := sr.len
  same := fun b o e => by
    by_cases eb : b = p
    · subst eb
      rw [upd_same] at e
      exact hp.trans e
    · rw [upd_ne eb] at e
      exact sr.same _ _ e
  ent := sr.ent.trans (same_new hf)
  away := fun a h f => upd_off (by rintro rfl; exact h.ne hb) (sr.away a h f)
  keep := sr.keep
  pth := sr.pth
  pinj := sr.pinj
  slot := fun i s e => by
    obtain ⟨v, e1, h⟩ := sr.slot i s e
    refine ⟨v, e1, ?_⟩
    cases s with
    | val d => exact Rep.same (same_new hf) h
    | own o =>
      obtain ⟨a, w, rfl, h1, h2, h3, h4⟩ := h
      exact ⟨a, w, rfl, h1, upd_off (by rintro rfl; exact no i o e e1) h2, h3, h4.same (same_new hf)⟩
    | par o =>
      obtain ⟨a, w, rfl, h1, h2, h3, h4⟩ := h
      exact ⟨a, w, rfl, h1, upd_off (by rintro rfl; exact (sr.pth i a h1).1 hb) h2, h3, h4.same (same_new hf)⟩
  sep := sr.sep
theorem get_set {ρ : Rho} {i j : Nat} {s x : Option Slot} (h : (ρ.set i x)[j]? = some s) : (j = i ∧ x = s) ∨ (j ≠ i ∧ ρ[j]? = some s) := by
  by_cases e : i = j
  · subst e
    rw [List.getElem?_set] at h
    simp only [if_true] at h
    split at h
    · exact .inl ⟨rfl, Option.some.inj h⟩
    · cases h
  · rw [List.getElem?_set_ne e] at h
    exact .inr ⟨fun z => e z.symm, h⟩
/-- the object that slot i owns stays from now on -/
theorem SR.settle {i : Nat} {o : Ob} {v : V} (sr : SR K mg B F σ H ρ) (e : ρ[i]? = some (some (.own o))) (ev : σ[i]? = some (some v)) : ∃ F', SR K mg B F' σ H (ρ.set i (some (.val o.d))) ∧ Same F F' ∧ Rep K mg F' v o.d := by
  obtain ⟨v', e1, a, u, rfl, h1, h2, h3, h4⟩ := sr.slot i _ e
  rw [ev] at e1
  cases e1
  have sF : Same F (upd F a u) := same_new h2
  have rep : Rep K mg (upd F a u) (.ref a) o.d := RepO.rep h4 sF upd_same
  refine ⟨upd F a u, ⟨by rw [List.length_set]; exact sr.len, ?_, sr.ent.trans sF, fun b h f => ?_, sr.keep, sr.pth, sr.pinj, fun j s ej => ?_, fun j k o1 o2 b e1 e2 => ?_⟩, sF, rep⟩
  · intro b w eb
    by_cases z : b = a
    · subst z
      rw [upd_same] at eb
      exact h3.trans eb
    · rw [upd_ne z] at eb
      exact sr.same _ _ eb
  · exact upd_off (by rintro rfl; exact h.ne h1) (sr.away b h f)
  · rcases get_set ej with ⟨rfl, rfl'⟩ | ⟨ne, ej⟩
    · cases rfl'
      exact ⟨_, ev, rep⟩
    · obtain ⟨v', e1, h⟩ := sr.slot j s ej
      refine ⟨v', e1, ?_⟩
      cases s with
      | val d => exact Rep.same sF h
      | own o' =>
        obtain ⟨b, w, rfl, q1, q2, q3, q4⟩ := h
        exact ⟨b, w, rfl, q1, upd_off (by rintro rfl; exact ne (sr.sep j i o' o b ej e e1 ev)) q2, q3, q4.same sF⟩
      | par o' =>
        obtain ⟨b, w, rfl, q1, q2, q3, q4⟩ := h
        exact ⟨b, w, rfl, q1, upd_off (by rintro rfl; exact (sr.pth j b q1).1 h1) q2, q3, q4.same sF⟩
  · rcases get_set e1 with ⟨_, z⟩ | ⟨_, e1⟩
    · cases z
    · rcases get_set e2 with ⟨_, z⟩ | ⟨_, e2⟩
      · cases z
      · exact sr.sep j k o1 o2 b e1 e2
end
end VE

namespace VE
open PySem PySem.Spec PyProof.Rows L2 G0
/-! ### values as they stand -/
inductive RepT (K : PySem.W.Frag) (mg : Mg) (F H : Hp) : V → D → Prop where
  | of {v : V} {d : D} : Rep K mg F v d → RepT K mg F H v d
  | ob {a : Addr} {u : HO} {o : Ob} {d : D} : H a = some u → RepO K mg F o u → o.d = d → RepT K mg F H (.ref a) d
inductive RepTs (K : PySem.W.Frag) (mg : Mg) (F H : Hp) : List V → List D → Prop where
  | nil : RepTs K mg F H [] []
  | cons {v : V} {vs : List V} {d : D} {ds : List D} : RepT K mg F H v d → RepTs K mg F H vs ds → RepTs K mg F H (v :: vs) (d :: ds)
def cont : RV → Rho → Option D
  | .val d, _ => some d
  | .own o, _ => some o.d
  | .pl i, ρ => match ρ[i]? with
    | some (some (.val d)) => some d
    | some (some (.own o)) => some o.d
    | some (some (.par o)) => some o.d
    | _ => none
def conts : List RV → Rho → Option (List D)
  | [], _ => some []
  | r :: rs, ρ => match cont r ρ, conts rs ρ with
    | some d, some ds => some (d :: ds)
    | _, _ => none
def hold : RV → RV
  | .own o => .val o.d
  | r => r
/-- what an operation gives that changes nothing: data that stand, or new ones -/
structure NewG (K : PySem.W.Frag) (mg : Mg) (F H F' H' : Hp) (v : V) (r : RV) : Prop where
  sF : Same F F'
  sH : Same H H'
  sFH : Same F' H'
  aw : ∀ a, Nt (H a) → F a = none → F' a = none
  res : match r with
    | .val d => Rep K mg F' v d
    | .own o => ∃ p u, v = .ref p ∧ H p = none ∧ F' p = none ∧ H' p = some u ∧ RepO K mg F' o u
    | .pl _ => False
section
variable {K : PySem.W.Frag} {mg : Mg} {W : WX} {B : Bs} {F F' H H' : Hp} {σ : L2.St} {ρ : Rho} {v : V} {r : RV} {d : D}
theorem RVh.same (s : Same F F') (h : RVh K mg F σ v r) : RVh K mg F' σ v r := by
  cases r with
  | val d => exact Rep.same s h
  | own o => exact h
  | pl i => exact h
theorem RVs.same {vs : List V} {rs : List RV} (s : Same F F') (h : RVs K mg F σ vs rs) : RVs K mg F' σ vs rs := by
  induction h with
  | nil => exact .nil
  | cons h _ ih => exact .cons (h.same s) ih
theorem RVR.hold (h : RVR K mg B F H σ ρ v r) (sr : SR K mg B F σ H ρ) : ∃ F', SR K mg B F' σ H ρ ∧ Same F F' ∧ RVh K mg F' σ v (hold r) := by
  cases r with
  | val d => exact ⟨F, sr, Same.refl _, h⟩
  | pl i => exact ⟨F, sr, Same.refl _, h.1⟩
  | own o =>
    obtain ⟨p, u, rfl, h1, h2, h3, h4, h5⟩ := h
    exact ⟨_, sr.frz h1 h2 h3 h5, same_new h2, RepO.rep h4 (same_new h2) upd_same⟩
theorem RVh.cont (h : RVh K mg F σ v r) (sr : SR K mg B F σ H ρ) (e : VE.cont r ρ = some d) : RepT K mg F H v d := by
  cases r with
  | val d' => cases e; exact .of h
  | own o => exact h.elim
  | pl i =>
    have h : σ[i]? = some (some v) := h
    unfold VE.cont at e
    dsimp only at e
    cases q : ρ[i]? with
    | none => rw [q] at e; cases e
    | some s =>
      cases s with
      | none => rw [q] at e; cases e
      | some s =>
        obtain ⟨v', e1, hs⟩ := sr.slot i s q
        rw [h] at e1
        cases e1
        rw [q] at e
        cases s with
        | val d' => cases e; exact .of hs
        | own o => cases e; obtain ⟨a, u, rfl, _, _, h3, h4⟩ := hs; exact .ob h3 h4 rfl
        | par o => cases e; obtain ⟨a, u, rfl, _, _, h3, h4⟩ := hs; exact .ob h3 h4 rfl
theorem RVR.cont (h : RVR K mg B F H σ ρ v r) (sr : SR K mg B F σ H ρ) (e : VE.cont r ρ = some d) : RepT K mg F H v d := by
  cases r with
  | val d' => cases e; exact .of h
  | own o =>
    cases e
    obtain ⟨p, u, rfl, _, _, h3, h4, _⟩ := h
    exact .ob h3 h4 rfl
  | pl i => exact RVh.cont (r := .pl i) h.1 sr e
theorem RVs.conts (sr : SR K mg B F σ H ρ) : ∀ {vs : List V} {rs : List RV} {ds : List D}, RVs K mg F σ vs rs → VE.conts rs ρ = some ds → RepTs K mg F H vs ds
  | _, _, _, .nil, e => by cases e; exact .nil
  | _, _, _, .cons (r := r) (rs := rs) h hs, e => by
    unfold VE.conts at e
    cases q1 : VE.cont r ρ with
    | none => rw [q1] at e; cases e
    | some d =>
      cases q2 : VE.conts rs ρ with
      | none => rw [q1, q2] at e; cases e
      | some ds =>
        rw [q1, q2] at e
        cases e
        exact .cons (h.cont sr q1) (RVs.conts sr hs q2)
theorem RepT.rep (h : RepT K mg F H v d) (s : Same F H) : Rep K mg H v d := by
  cases h with
  | of h => exact h.same s
  | ob h1 h2 e => subst e; exact h2.rep s h1
theorem NewG.same {d : D} (s : Same F H) (h : Rep K mg F v d) : NewG K mg F H F H v (.val d) := ⟨Same.refl _, Same.refl _, s, fun _ _ h => h, h⟩
theorem NewG.own {p : Addr} {u : HO} {o : Ob} (s : Same F H) (hp : H p = none) (h : RepO K mg F o u) : NewG K mg F H F (upd H p u) (.ref p) (.own o) :=
  ⟨Same.refl _, same_new hp, s.trans (same_new hp), fun _ _ h => h, p, u, rfl, hp, s.free hp, upd_same, h⟩
theorem NewG.put {p : Addr} {u : HO} {d : D} (s : Same F H) (hp : H p = none) (h : Rep K mg (upd F p u) (.ref p) d) : NewG K mg F H (upd F p u) (upd H p u) (.ref p) (.val d) :=
  ⟨same_new (s.free hp), same_new hp, same_upd2 s, fun a no f => upd_off (by rintro rfl; exact no.ne hp) f, h⟩
theorem NewG.tup {p : Addr} {vs : List V} {ds : List D} (s : Same F H) (hp : H p = none) (z : vs.length ≤ sizeLine) (h : Reps K mg F vs ds) : NewG K mg F H (upd F p (.tup vs)) (upd H p (.tup vs)) (.ref p) (.val (.tup ds)) :=
  .put s hp (.tup upd_same z (h.same (same_new (s.free hp))))
theorem NewG.sr (n : NewG K mg F H F' H' v r) (sr : SR K mg B F σ H ρ) : SR K mg B F' σ H' ρ ∧ RVR K mg B F' H' σ ρ v r := by
  refine ⟨sr.ext n.sF n.sH n.sFH n.aw, ?_⟩
  have res := n.res
  cases r with
  | val d => exact res
  | pl i => exact res.elim
  | own o =>
    obtain ⟨p, u, rfl, h1, h2, h3, h4⟩ := res
    refine ⟨p, u, rfl, sr.fresh h1, h2, h3, h4, fun i o' e e2 => ?_⟩
    obtain ⟨v', e1, a, w, rfl, _, _, q, _⟩ := sr.slot i _ e
    rw [e1] at e2
    cases e2
    rw [h1] at q
    cases q
end
/-! ### operators and calls that change nothing -/
def rU (K : PySem.W.Frag) (mg : Mg) (op : D → D → Option RV) : R2 := fun v1 v2 H Q => ∃ F d1 d2 r, Same F H ∧ RepT K mg F H v1 d1 ∧ RepT K mg F H v2 d2 ∧ op d1 d2 = some r ∧ ∀ v H' F', NewG K mg F H F' H' v r → Q v H'
def rU1 (K : PySem.W.Frag) (mg : Mg) (op : D → Option RV) : V → Hp → VK → Prop := fun v1 H Q => ∃ F d1 r, Same F H ∧ RepT K mg F H v1 d1 ∧ op d1 = some r ∧ ∀ v H' F', NewG K mg F H F' H' v r → Q v H'
def rC (K : PySem.W.Frag) (mg : Mg) (c : List D → Option RV) : List V → Hp → VK → Prop := fun vs H Q => ∃ F ds r, Same F H ∧ RepTs K mg F H vs ds ∧ c ds = some r ∧ ∀ v H' F', NewG K mg F H F' H' v r → Q v H'
def fin1 (op : D → Option RV) (r1 : RV) : M RV := fun ρ => match cont r1 ρ with
  | some d1 => (match op d1 with | some r => .ok r ρ | none => .bad)
  | none => .bad
def fin2 (op : D → D → Option RV) (r1 r2 : RV) : M RV := fun ρ => match cont (hold r1) ρ, cont r2 ρ with
  | some d1, some d2 => (match op d1 d2 with | some r => .ok r ρ | none => .bad)
  | _, _ => .bad
def finC (c : List D → Option RV) (rs : List RV) : M RV := fun ρ => match conts rs ρ with
  | some ds => (match c ds with | some r => .ok r ρ | none => .bad)
  | none => .bad
def mUn (op : D → Option RV) (f : M RV) : M RV := M.bind f fun r => fin1 op r
def mOp (op : D → D → Option RV) (f g : M RV) : M RV := M.bind f fun r1 => M.bind g fun r2 => fin2 op r1 r2
def mC (c : List D → Option RV) (f : M (List RV)) : M RV := M.bind f fun rs => finC c rs
def mNil : M (List RV) := M.ret []
def mCons (f : M RV) (g : M (List RV)) : M (List RV) := M.bind f fun r => M.bind g fun rs => M.ret (hold r :: rs)
section
variable {X : Cx} {a b e : Expr} {es : List Expr} {pos : Pos} {f g : M RV} {fs : M (List RV)}
theorem va_nil : VA X [] mNil := ⟨fun W tk => pa_nil.imp fun σ H Q ⟨B, F, ρ, sr, h⟩ => h [] H F sr (Same.refl _) .nil⟩
theorem va_cons (ha : VE X e f) (hr : VA X es fs) (hs : starEach (e :: es) X.env = (false, eval e X.env) :: starEach es X.env := by rfl) : VA X (e :: es) (mCons f fs) := by
  refine ⟨fun W tk => (pa_cons (ha.run W tk) (hr.run W tk) hs).imp fun σ H Q ⟨B, F, ρ, sr, h⟩ => ?_⟩
  refine ⟨B, F, ρ, sr, h.bind.imp fun r ρ1 h v H1 F1 sr1 s1 rv => ?_⟩
  obtain ⟨F2, sr2, s2, rv2⟩ := rv.hold sr1
  refine ⟨B, F2, ρ1, sr2, (h.mono (s1.trans s2)).bind.imp fun rs ρ2 h vs H3 F3 sr3 s3 rvs => ?_⟩
  exact h (v :: vs) H3 F3 sr3 ((s1.trans s2).trans s3) (.cons (rv2.same s3) rvs)
theorem ve_op {o : Operator} {op : D → D → Option RV} (ho : OpR X (binaryOp o) (rU X.K X.mg op)) (ha : VE X a f) (hb : VE X b g) : VE X (.BinOp a o b pos) (mOp op f g) := by
  refine ⟨fun W tk => (pe_op ho (ha.run W tk) (hb.run W tk)).imp fun σ H Q ⟨B, F, ρ, sr, h⟩ => ?_⟩
  refine ⟨B, F, ρ, sr, h.bind.imp fun r ρ1 h v H1 F1 sr1 s1 rv => ?_⟩
  obtain ⟨F2, sr2, s2, rv2⟩ := rv.hold sr1
  refine ⟨B, F2, ρ1, sr2, (h.mono (s1.trans s2)).bind.imp fun r2 ρ2 h v2 H3 F3 sr3 s3 rw2 => ?_⟩
  unfold fin2 at h
  cases q1 : cont (hold r) ρ2 with
  | none => rw [q1] at h; exact h.elim
  | some d1 =>
    cases q2 : cont r2 ρ2 with
    | none => rw [q1, q2] at h; exact h.elim
    | some d2 =>
      rw [q1, q2] at h
      dsimp only at h
      cases q3 : op d1 d2 with
      | none => rw [q3] at h; exact h.elim
      | some r3 =>
        rw [q3] at h
        refine ⟨F3, d1, d2, r3, sr3.same, (rv2.same s3).cont sr3 q1, rw2.cont sr3 q2, q3, fun w H' F' n => ?_⟩
        obtain ⟨sr4, rv4⟩ := n.sr sr3
        exact h w H' F' sr4 (((s1.trans s2).trans s3).trans n.sF) rv4
theorem ve_cmp {o : CmpOp} {op : D → D → Option RV} (ho : OpR X (compareOp o) (rU X.K X.mg op)) (ha : VE X a f) (hb : VE X b g) (hm : behindInMarks o b = false) : VE X (.Compare a [o] [b] pos) (mOp op f g) := by
  refine ⟨fun W tk => (pe_cmpR ho (ha.run W tk) (hb.run W tk) hm).imp fun σ H Q ⟨B, F, ρ, sr, h⟩ => ?_⟩
  refine ⟨B, F, ρ, sr, h.bind.imp fun r ρ1 h v H1 F1 sr1 s1 rv => ?_⟩
  obtain ⟨F2, sr2, s2, rv2⟩ := rv.hold sr1
  refine ⟨B, F2, ρ1, sr2, (h.mono (s1.trans s2)).bind.imp fun r2 ρ2 h v2 H3 F3 sr3 s3 rw2 => ?_⟩
  unfold fin2 at h
  cases q1 : cont (hold r) ρ2 with
  | none => rw [q1] at h; exact h.elim
  | some d1 =>
    cases q2 : cont r2 ρ2 with
    | none => rw [q1, q2] at h; exact h.elim
    | some d2 =>
      rw [q1, q2] at h
      dsimp only at h
      cases q3 : op d1 d2 with
      | none => rw [q3] at h; exact h.elim
      | some r3 =>
        rw [q3] at h
        refine ⟨F3, d1, d2, r3, sr3.same, (rv2.same s3).cont sr3 q1, rw2.cont sr3 q2, q3, fun w H' F' n => ?_⟩
        obtain ⟨sr4, rv4⟩ := n.sr sr3
        exact h w H' F' sr4 (((s1.trans s2).trans s3).trans n.sF) rv4
theorem ve_un {o : UnaryOp} {op : D → Option RV} (ho : UnR X (unaryOp o) (rU1 X.K X.mg op)) (ha : VE X a f) : VE X (.UnaryOp o a pos) (mUn op f) := by
  refine ⟨fun W tk => (pe_un ho (ha.run W tk)).imp fun σ H Q ⟨B, F, ρ, sr, h⟩ => ?_⟩
  refine ⟨B, F, ρ, sr, h.bind.imp fun r ρ1 h v H1 F1 sr1 s1 rv => ?_⟩
  unfold fin1 at h
  cases q1 : cont r ρ1 with
  | none => rw [q1] at h; exact h.elim
  | some d1 =>
    rw [q1] at h
    dsimp only at h
    cases q3 : op d1 with
    | none => rw [q3] at h; exact h.elim
    | some r3 =>
      rw [q3] at h
      refine ⟨F1, d1, r3, sr1.same, rv.cont sr1 q1, q3, fun w H' F' n => ?_⟩
      obtain ⟨sr4, rv4⟩ := n.sr sr1
      exact h w H' F' sr4 (s1.trans n.sF) rv4
theorem finC_run {c : List D → Option RV} {rs : List RV} {K : PySem.W.Frag} {mg : Mg} {W : WX} {B : Bs} {F0 F H : Hp} {σ : L2.St} {ρ : Rho} {vs : List V} {Q : VK} (sr : SR K mg B F σ H ρ) (s0 : Same F0 F) (rvs : RVs K mg F σ vs rs)
    (h : outcome K mg W B F0 σ (finC c rs ρ) fun r ρ' => ∀ v H' F', SR K mg B F' σ H' ρ' → Same F0 F' → RVR K mg B F' H' σ ρ' v r → Q v H') : rC K mg c vs H Q := by
  unfold finC at h
  cases q1 : conts rs ρ with
  | none => rw [q1] at h; exact h.elim
  | some ds =>
    rw [q1] at h
    dsimp only at h
    cases q3 : c ds with
    | none => rw [q3] at h; exact h.elim
    | some r3 =>
      rw [q3] at h
      refine ⟨F, ds, r3, sr.same, rvs.conts sr q1, q3, fun w H' F' n => ?_⟩
      obtain ⟨sr4, rv4⟩ := n.sr sr
      exact h w H' F' sr4 (s0.trans n.sF) rv4
theorem ve_callB {id : String} {x : Str} {p : Pos} {c : List D → Option RV} (hc : CallR X (.builtin id) (rC X.K X.mg c)) (hm : X.mg x = none) (hv : bootBuiltins x = some (.builtin id)) (ha : VA X (e :: es) fs) (hg : Gl X x := by rfl) (hn : x ≠ "__name__" := by decide) (hdb : (x == ("__debug__" : Str)) = false := by decide)
    (he : starEach (e :: es) X.env = (false, eval e X.env) :: starEach es X.env := by rfl) (hpl : (backTo pos (starEach es X.env)).any (·.1) = false := by rfl) : VE X (.Call (.Name x p) (e :: es) [] pos) (mC c fs) := by
  refine ⟨fun W tk => (pe_callB hc hg hm hv (ha.run W tk) hn hdb he hpl).imp fun σ H Q ⟨B, F, ρ, sr, h⟩ => ?_⟩
  exact ⟨B, F, ρ, sr, h.bind.imp fun rs ρ1 h vs H1 F1 sr1 s1 rvs => finC_run sr1 s1 rvs h⟩
theorem ve_callTy {T : String} {x : Str} {p : Pos} {c : List D → Option RV} (hc : CallR X (.type T) (rC X.K X.mg c)) (hm : X.mg x = none) (hv : bootBuiltins x = some (.type T)) (ha : VA X (e :: es) fs) (hg : Gl X x := by rfl) (hn : x ≠ "__name__" := by decide) (hdb : (x == ("__debug__" : Str)) = false := by decide)
    (he : starEach (e :: es) X.env = (false, eval e X.env) :: starEach es X.env := by rfl) (hpl : (backTo pos (starEach es X.env)).any (·.1) = false := by rfl) : VE X (.Call (.Name x p) (e :: es) [] pos) (mC c fs) := by
  refine ⟨fun W tk => (pe_callTy hc hg hm hv (ha.run W tk) hn hdb he hpl).imp fun σ H Q ⟨B, F, ρ, sr, h⟩ => ?_⟩
  exact ⟨B, F, ρ, sr, h.bind.imp fun rs ρ1 h vs H1 F1 sr1 s1 rvs => finC_run sr1 s1 rvs h⟩
/-! ### names and constants -/
def mVal (d : D) : M RV := M.ret (.val d)
def mPl (i : Nat) : M RV := fun ρ => match ρ[i]? with
  | some (some (.val d)) => .ok (.val d) ρ
  | some (some _) => .ok (.pl i) ρ
  | _ => .bad
theorem ve_c {v : V} {d : D} (h : PE X e (tC v)) (r : ∀ F, Rep X.K X.mg F v d) : VE X e (mVal d) := ⟨fun W tk => h.imp fun σ H Q ⟨B, F, ρ, sr, h⟩ => h v H F sr (Same.refl _) (r F)⟩
theorem ve_int {i : Int} {j : Nat} {pos : Pos} : VE X (.Constant (.int i) j pos) (mVal (.int i)) := ve_c pe_int fun _ => .int i
theorem ve_bl {i : Bool} {j : Nat} {pos : Pos} : VE X (.Constant (.bool i) j pos) (mVal (.bl i)) := ve_c pe_bl fun _ => .bl i
theorem ve_str {i : Str} {j : Nat} {pos : Pos} : VE X (.Constant (.str i) j pos) (mVal (.str i)) := ve_c pe_str fun _ => .str i
theorem ve_non {j : Nat} {pos : Pos} : VE X (.Constant .none j pos) (mVal .non) := ve_c pe_non fun _ => .non
theorem ve_pl (i : Nat) {x : Str} {pos : Pos} (h : PE X (.Name x pos) (tVar i)) : VE X (.Name x pos) (mPl i) := by
  refine ⟨fun W tk => h.imp fun σ H Q ⟨B, F, ρ, sr, h⟩ => ?_⟩
  unfold mPl at h
  cases q : ρ[i]? with
  | none => rw [q] at h; exact h.elim
  | some s =>
    cases s with
    | none => rw [q] at h; exact h.elim
    | some s =>
      obtain ⟨v, e1, hs⟩ := sr.slot i s q
      refine ⟨v, e1, ?_⟩
      rw [q] at h
      cases s with
      | val d => exact h v H F sr (Same.refl _) hs
      | own o => exact h v H F sr (Same.refl _) ⟨e1, _, q⟩
      | par o => exact h v H F sr (Same.refl _) ⟨e1, _, q⟩
theorem ve_v (i : Nat) {x : Str} {pos : Pos} (hN : X.N[i]? = some x := by rfl) (hv : Vis X.env.scope x := by first | exact Or.inl rfl | exact Or.inr (Or.inl rfl) | exact Or.inr (Or.inr rfl)) (hd : (x == ("__debug__" : Str)) = false := by decide)
    (hcd : (x == ("__classdict__" : Str)) = false := by decide) : VE X (.Name x pos) (mPl i) := ve_pl i (pe_var hN hv hd hcd)
end
end VE

namespace VE
open PySem PySem.Spec PyProof.Rows L2 G0
section
variable {K : PySem.W.Frag} {mg : Mg} {F H : Hp} {v : V}
theorem Ob.cases_ {P : Prop} {o : Ob} {d : D} (e : o.d = d) (h1 : ∀ xs, d = .lst xs → P) (h2 : ∀ xs, d = .dK xs → P) (h3 : ∀ xs, d = .dT xs → P) (h4 : ∀ C fs, d = .obj C fs → P := by exact fun _ _ z => nomatch z) : P := by
  cases o with
  | lst xs => exact h1 xs e.symm
  | dK xs => exact h2 xs e.symm
  | dT xs => exact h3 xs e.symm
  | ins C fs => exact h4 C fs e.symm
theorem RepT.int_ {i : Int} (h : RepT K mg F H v (.int i)) : v = .int i := by
  cases h with
  | of h => cases h; rfl
  | ob _ _ e => exact Ob.cases_ e (fun _ z => nomatch z) (fun _ z => nomatch z) fun _ z => nomatch z
theorem RepT.bl_ {i : Bool} (h : RepT K mg F H v (.bl i)) : v = .bl i := by
  cases h with
  | of h => cases h; rfl
  | ob _ _ e => exact Ob.cases_ e (fun _ z => nomatch z) (fun _ z => nomatch z) fun _ z => nomatch z
theorem RepT.str_ {i : Str} (h : RepT K mg F H v (.str i)) : v = .str i := by
  cases h with
  | of h => cases h; rfl
  | ob _ _ e => exact Ob.cases_ e (fun _ z => nomatch z) (fun _ z => nomatch z) fun _ z => nomatch z
theorem RepT.ty_ {i : TyN} (h : RepT K mg F H v (.ty i)) : v = .ty i.s := by
  cases h with
  | of h => cases h; rfl
  | ob _ _ e => exact Ob.cases_ e (fun _ z => nomatch z) (fun _ z => nomatch z) fun _ z => nomatch z
theorem RepT.non_ (h : RepT K mg F H v .non) : v = .non := by
  cases h with
  | of h => cases h; rfl
  | ob _ _ e => exact Ob.cases_ e (fun _ z => nomatch z) (fun _ z => nomatch z) fun _ z => nomatch z
theorem RepT.lst_ {xs : List D} (s : Same F H) (h : RepT K mg F H v (.lst xs)) : ∃ a vs, v = .ref a ∧ LstR K H a vs ∧ vs.length ≤ sizeLine ∧ Reps K mg F vs xs := by
  cases h with
  | of h =>
    cases h with
    | lst h1 h2 h3 => exact ⟨_, _, rfl, LstR.same s h1, h2, h3⟩
  | @ob a u o d h1 h2 e =>
    cases o with
    | lst ys =>
      cases e
      cases h2 with
      | lst z r => exact ⟨_, _, rfl, .inl (.inl h1), z, r⟩
    | dK ys => cases e
    | dT ys => cases e
    | ins C fs => cases e
theorem RepT.tup_ {xs : List D} (h : RepT K mg F H v (.tup xs)) : ∃ a vs, v = .ref a ∧ TupR K F a vs ∧ vs.length ≤ sizeLine ∧ Reps K mg F vs xs := by
  cases h with
  | of h =>
    cases h with
    | tup h1 h2 h3 => exact ⟨_, _, rfl, h1, h2, h3⟩
  | ob _ _ e => exact Ob.cases_ e (fun _ z => nomatch z) (fun _ z => nomatch z) fun _ z => nomatch z
theorem RepTs.one {vs : List V} {d : D} (h : RepTs K mg F H vs [d]) : ∃ v, vs = [v] ∧ RepT K mg F H v d := by
  cases h with
  | cons h t => cases t; exact ⟨_, rfl, h⟩
theorem RepTs.two {vs : List V} {d e : D} (h : RepTs K mg F H vs [d, e]) : ∃ v w, vs = [v, w] ∧ RepT K mg F H v d ∧ RepT K mg F H w e := by
  cases h with
  | cons h t =>
    obtain ⟨w, rfl, h2⟩ := RepTs.one t
    exact ⟨_, _, rfl, h, h2⟩
/-- a list or a tuple, as it stands -/
theorem RepT.seq_ {xs : List D} (s : Same F H) (h : RepT K mg F H v (.lst xs) ∨ RepT K mg F H v (.tup xs)) : ∃ a vs, v = .ref a ∧ Sq K H a vs ∧ vs.length ≤ sizeLine ∧ Reps K mg F vs xs := by
  rcases h with h | h
  · obtain ⟨a, vs, e, h1, h2, h3⟩ := h.lst_ s
    exact ⟨a, vs, e, .inl h1.sq, h2, h3⟩
  · obtain ⟨a, vs, e, h1, h2, h3⟩ := h.tup_
    exact ⟨a, vs, e, .inr (same_t s h1.sq), h2, h3⟩
end
/-! ### data as PyData -/
mutual
def py : D → PyData
  | .non => .none
  | .bl b => .bool b
  | .int i => .int i
  | .str x => .str x
  | .lst xs => .list (pys xs)
  | .tup xs => .tuple (pys xs)
  | _ => .dict []
def pys : List D → List PyData
  | [] => []
  | d :: ds => py d :: pys ds
end
/-- without dicts, objects, classes -/
abbrev okD (d : D) : Bool := SeqAt.shaped (py d)
section
variable {K : PySem.W.Frag} {mg : Mg} {H : Hp}
mutual
theorem Rep.dp : ∀ {v : V} {d : D}, Rep K mg H v d → (py d).hasDict = false → Dp K H v (py d)
  | _, _, .non, _ => by simp only [py]; exact .non
  | _, _, .bl b, _ => by simp only [py]; exact .bl b
  | _, _, .int b, _ => by simp only [py]; exact .int b
  | _, _, .str b, _ => by simp only [py]; exact .str b
  | _, _, .lst h _ r, e => by
    simp only [py] at e ⊢
    simp only [PyData.hasDict] at e
    exact .lst h.sq (Reps.dp r e)
  | _, _, .tup h _ r, e => by
    simp only [py] at e ⊢
    simp only [PyData.hasDict] at e
    exact .tup h.sq (Reps.dp r e)
  | _, _, .ty _, e => by simp [py, PyData.hasDict] at e
  | _, _, .cls _, e => by simp [py, PyData.hasDict] at e
  | _, _, .dK _ _, e => by simp [py, PyData.hasDict] at e
  | _, _, .dT _ _, e => by simp [py, PyData.hasDict] at e
  | _, _, .fT _ _ _, e => by simp [py, PyData.hasDict] at e
  | _, _, .obj _ _ _, e => by simp [py, PyData.hasDict] at e
  | _, _, .rng _, e => by simp [py, PyData.hasDict] at e
theorem Reps.dp : ∀ {vs : List V} {ds : List D}, Reps K mg H vs ds → PyData.hasDictAll (pys ds) = false → DpAll K H vs (pys ds)
  | _, _, .nil, _ => by simp only [pys]; exact .nil
  | _, _, .cons h r, e => by
    simp only [pys] at e ⊢
    simp only [PyData.hasDictAll, Bool.or_eq_false_iff] at e
    exact .cons (Rep.dp h e.1) (Reps.dp r e.2)
end
end
/-! ### operators -/
abbrev szOk (n : Nat) : Bool := decide (n ≤ sizeLine)
abbrev rB (b : Bool) : Option RV := some (.val (.bl b))
abbrev rI' (i : Int) : Option RV := some (.val (.int i))
def opAdd : D → D → Option RV
  | .int i, .int j => rI' (i + j)
  | .str x, .str y => if szOk (x.length + y.length) then some (.val (.str (x ++ y))) else none
  | .lst xs, .lst ys => if szOk (xs.length + ys.length) then some (.own (.lst (xs ++ ys))) else none
  | .tup xs, .tup ys => if szOk (xs.length + ys.length) then some (.val (.tup (xs ++ ys))) else none
  | _, _ => none
def opSub : D → D → Option RV
  | .int i, .int j => rI' (i - j)
  | _, _ => none
abbrev mulOk (i j : Int) : Bool := decide (i.natAbs.log2 + j.natAbs.log2 < 1000000)
def opMul : D → D → Option RV
  | .int i, .int j => if mulOk i j then rI' (i * j) else none
  | .lst xs, .int k => if decide (-(2 ^ 63) ≤ k ∧ k < 2 ^ 63) && szOk (xs.length * k.toNat) then some (.own (.lst (List.replicate k.toNat xs).flatten)) else none
  | _, _ => none
/-- a divisor that is not 0 and below 2 ^ 9000 in size -/
abbrev divOk (j : Int) : Bool := decide (j ≠ 0 ∧ j.natAbs.log2 < 9000)
def opFdiv : D → D → Option RV
  | .int i, .int j => if divOk j then rI' (i.fdiv j) else none
  | _, _ => none
def opMod : D → D → Option RV
  | .int i, .int j => if decide (j ≠ 0) then rI' (i.fmod j) else none
  | _, _ => none
def opPow : D → D → Option RV
  | .int i, .int j => if decide (0 ≤ j ∧ j ≤ 1000000 ∧ i.natAbs < 2 ^ 64) then rI' (i ^ j.toNat) else none
  | _, _ => none
def opLt : D → D → Option RV
  | .int i, .int j => rB (decide (i < j))
  | _, _ => none
def opLe : D → D → Option RV
  | .int i, .int j => rB (decide (i ≤ j))
  | _, _ => none
def opGt : D → D → Option RV
  | .int i, .int j => rB (decide (j < i))
  | _, _ => none
def opGe : D → D → Option RV
  | .int i, .int j => rB (decide (j ≤ i))
  | _, _ => none
def okF : Nat → D → Bool
  | _, .non => true
  | _, .bl _ => true
  | _, .int _ => true
  | n + 1, .lst xs => xs.all (okF n)
  | n + 1, .tup xs => xs.all (okF n)
  | _, _ => false
def eqLs (f : D → D → Bool) : List D → List D → Bool
  | [], [] => true
  | x :: xs, y :: ys => if f x y = true then eqLs f xs ys else false
  | _, _ => false
def eqF : Nat → D → D → Bool
  | _, .non, .non => true
  | _, .bl a, .bl b => a == b
  | _, .bl a, .int j => (if a then 1 else 0) == j
  | _, .int i, .bl b => i == (if b then 1 else 0)
  | _, .int i, .int j => i == j
  | n + 1, .lst xs, .lst ys => eqLs (eqF n) xs ys
  | n + 1, .tup xs, .tup ys => eqLs (eqF n) xs ys
  | _, _, _ => false
theorem okF_all {n : Nat} (ih : ∀ d, okF n d = true → (py d).canLay0 = true ∧ (py d).depth ≤ n) : ∀ xs : List D, xs.all (okF n) = true → PyData.canLayAll0 (pys xs) = true ∧ PyData.depthAll (pys xs) ≤ n
  | [], _ => by simp [pys, PyData.canLayAll0, PyData.depthAll]
  | x :: xs, h => by
    rw [List.all_cons, Bool.and_eq_true] at h
    obtain ⟨h1, h2⟩ := ih x h.1
    obtain ⟨h3, h4⟩ := okF_all ih xs h.2
    simp only [pys, PyData.canLayAll0, PyData.depthAll, h1, h3, Bool.and_self, true_and]
    omega
theorem okF_ok : ∀ (n : Nat) (d : D), okF n d = true → (py d).canLay0 = true ∧ (py d).depth ≤ n := by
  intro n
  induction n with
  | zero =>
    intro d h
    cases d <;> first | (simp [okF] at h; done) | simp [py, PyData.canLay0, PyData.depth]
  | succ n ih =>
    intro d h
    cases d with
    | lst xs =>
      have h : xs.all (okF n) = true := h
      obtain ⟨h1, h2⟩ := okF_all ih xs h
      simp only [py, PyData.canLay0, PyData.depth, h1, true_and]
      omega
    | tup xs =>
      have h : xs.all (okF n) = true := h
      obtain ⟨h1, h2⟩ := okF_all ih xs h
      simp only [py, PyData.canLay0, PyData.depth, h1, true_and]
      omega
    | _ => first | (simp [okF] at h; done) | simp [py, PyData.canLay0, PyData.depth]
theorem okF_D {n : Nat} {d : D} (hn : n ≤ 64) (h : okF n d = true) : okD d = true := by
  obtain ⟨h1, h2⟩ := okF_ok n d h
  show (PyData.canLay0 (py d) && decide (PyData.depth (py d) ≤ 64)) = true
  rw [h1, decide_eq_true (Nat.le_trans h2 hn)]
  rfl
theorem eqLs_eq {n : Nat} (ih : ∀ d e, okF n d = true → okF n e = true → eqF n d e = PyData.eqv (py d) (py e)) : ∀ xs ys : List D, xs.all (okF n) = true → ys.all (okF n) = true → eqLs (eqF n) xs ys = PyData.eqvAll (pys xs) (pys ys)
  | [], [], _, _ => by simp [eqLs, pys, PyData.eqvAll]
  | [], _ :: _, _, _ => by simp [eqLs, pys, PyData.eqvAll]
  | _ :: _, [], _, _ => by simp [eqLs, pys, PyData.eqvAll]
  | x :: xs, y :: ys, h1, h2 => by
    rw [List.all_cons, Bool.and_eq_true] at h1 h2
    simp only [eqLs, pys, PyData.eqvAll]
    rw [ih x y h1.1 h2.1, eqLs_eq ih xs ys h1.2 h2.2]
    cases PyData.eqv (py x) (py y) <;> rfl
theorem eqF_eq : ∀ (n : Nat) (d e : D), okF n d = true → okF n e = true → eqF n d e = PyData.eqv (py d) (py e) := by
  intro n
  induction n with
  | zero =>
    intro d e h1 h2
    cases d <;> first | (simp [okF] at h1; done) | (cases e <;> first | (simp [okF] at h2; done) | simp [eqF, py, PyData.eqv])
  | succ n ih =>
    intro d e h1 h2
    cases d <;> first | (simp [okF] at h1; done) | (cases e <;> first | (simp [okF] at h2; done) | (simp [eqF, py, PyData.eqv]; done) | (simp only [eqF, py, PyData.eqv]; exact eqLs_eq ih _ _ h1 h2))
def eqG (d e : D) : Option Bool := if okD d && okD e then some (PyData.eqv (py d) (py e)) else none
/-- equality; of ints, bools and None at once -/
def eqQ : D → D → Option Bool
  | .int i, .int j => some (decide (i = j))
  | .bl a, .bl b => some (match a, b with | true, true => true | false, false => true | _, _ => false)
  | .non, .non => some true
  | d, e => if (okF 8 d && okF 8 e) = true then some (eqF 8 d e) else eqG d e
theorem eqQ_eq : ∀ (d e : D), eqQ d e = eqG d e := by
  intro d e
  unfold eqQ
  split
  · rfl
  · rename_i a b; cases a <;> cases b <;> rfl
  · rfl
  · split
    · rename_i z
      rw [Bool.and_eq_true] at z
      unfold eqG
      rw [okF_D (by decide) z.1, okF_D (by decide) z.2, eqF_eq 8 _ _ z.1 z.2]
      rfl
    · rfl
def opEq (d e : D) : Option RV := match eqQ d e with
  | some b => rB b
  | none => none
def opNe (d e : D) : Option RV := match eqQ d e with
  | some b => rB (!b)
  | none => none
def inG (d : D) (es : List D) : Option Bool := if okD d && okD (.lst es) then some ((pys es).any fun z => PyData.eqv z (py d)) else none
def inQ (d : D) (es : List D) : Option Bool := if (okF 8 d && es.all (okF 8)) = true then some (es.any fun e => eqF 8 e d) else inG d es
theorem inQ_any {d : D} (h : okF 8 d = true) : ∀ es : List D, es.all (okF 8) = true → (es.any fun e => eqF 8 e d) = (pys es).any fun z => PyData.eqv z (py d)
  | [], _ => rfl
  | e :: es, h2 => by
    rw [List.all_cons, Bool.and_eq_true] at h2
    rw [List.any_cons, inQ_any h es h2.2, eqF_eq 8 e d h2.1 h]
    rfl
theorem inQ_eq (d : D) (es : List D) : inQ d es = inG d es := by
  unfold inQ
  split
  · rename_i z
    rw [Bool.and_eq_true] at z
    unfold inG
    rw [okF_D (by decide) z.1, okF_D (n := 9) (by decide) (show okF 9 (.lst es) = true from z.2), inQ_any z.1 es z.2]
    rfl
  · rfl
def opIn (d : D) : D → Option RV
  | .lst es => (match inQ d es with
    | some b => rB b
    | none => none)
  | _ => none
def opNotIn (d : D) : D → Option RV
  | .lst es => (match inQ d es with
    | some b => rB (!b)
    | none => none)
  | _ => none
def isNon : D → Bool
  | .non => true
  | _ => false
def opIsN (d : D) : D → Option RV
  | .non => rB (isNon d)
  | _ => none
def opNotN (d : D) : D → Option RV
  | .non => rB (!isNon d)
  | _ => none
def opIsB : D → D → Option RV
  | .bl c, .bl b => rB (decide (c = b))
  | _, _ => none
def opNotB : D → D → Option RV
  | .bl c, .bl b => rB (!decide (c = b))
  | _, _ => none
def opNeg : D → Option RV
  | .int i => rI' (-i)
  | _ => none
theorem okB {b : Bool} {r : RV} {o : Option RV} (h : (if b = true then o else none) = some r) : b = true ∧ o = some r := by
  cases b with
  | true => exact ⟨rfl, h⟩
  | false => cases h
section
variable {X : Cx}
theorem rd_list {pins : List (Addr × Obj)} {σ : L2.St} {H : Hp} {s : Shared} {a : Addr} {xs : List V} (I : Inv X pins σ H s) (h : LstR X.K H a xs) : xs.length ≤ sizeLine ∧ ∃ (its : List Value) (n : Nat), Vals xs its ∧ xs.length = its.length ∧ s.heap.get? a = some { cls := .type "list", data := .seq its.toArray n } := by
  rcases h with h | ⟨its, n, hk, hz, r⟩
  · obtain ⟨z, its, n, r, e⟩ := h.ok I.hok
    exact ⟨z, its, n, r, r.length, e⟩
  · have e := r.length
    refine ⟨?_, its.toList, n, r, r.length, by simpa using I.kIn a _ hk⟩
    simp only [Array.length_toList] at e
    omega
theorem op_catG : OpR X (binaryOp .Add) (fun x y H Q => ∃ l b xs zs, x = .ref l ∧ y = .ref b ∧ LstR X.K H l xs ∧ LstR X.K H b zs ∧ xs.length + zs.length ≤ sizeLine ∧ ∀ p, H p = none → Q (.ref p) (upd H p (.lst (xs ++ zs)))) := by
  intro pins s σ H x y v u Q I rx ry h
  obtain ⟨l, b, xs, zs, rfl, rfl, hH, hB, hz, q⟩ := h
  cases rx
  cases ry
  obtain ⟨z, its, n, r, hl, e⟩ := rd_list I hH
  obtain ⟨z2, its2, n2, r2, hl2, e2⟩ := rd_list I hB
  refine PySem.P.add_list e e2 ?_ (by rw [List.size_toArray, List.size_toArray]; omega)
  have ea : its.toArray ++ its2.toArray = (its ++ its2).toArray := by simp
  rw [ea]
  exact ⟨.ref _, _, I.lnew (t' := s.toks) (r.append r2) (by rw [List.length_append]; omega), rfl, q _ I.fresh⟩
theorem op_repG : OpR X (binaryOp .Mult) (fun x y H Q => ∃ l k xs, x = .ref l ∧ y = .int k ∧ LstR X.K H l xs ∧ -(2 ^ 63) ≤ k ∧ k < 2 ^ 63 ∧ xs.length * k.toNat ≤ sizeLine ∧
    ∀ p, H p = none → Q (.ref p) (upd H p (.lst (List.replicate k.toNat xs).flatten))) := by
  intro pins s σ H x y v u Q I rx ry h
  obtain ⟨l, k, xs, rfl, rfl, hH, h1, h2, hz, q⟩ := h
  cases rx
  obtain ⟨t, rfl⟩ := ry
  obtain ⟨z, its, n, r, hl, e⟩ := rd_list I hH
  have hlen : its.toArray.size * k.toNat ≤ sizeLine := by rw [List.size_toArray, ← hl]; exact hz
  have hcap : ¬ its.toArray.size * k.toNat > (2 ^ 63 - 1) / 8 := by
    have : (sizeLine : Nat) ≤ (2 ^ 63 - 1) / 8 := by decide
    omega
  have hfit : ¬ (!Builtin.List.listFitsIndex k) = true := by
    rw [fitsIndex_both h1 h2]
    exact Bool.false_ne_true
  have hlong : ¬ Builtin.List.listTooLong (its.toArray.size * k.toNat) = true := by
    rw [notLongL hlen]
    exact Bool.false_ne_true
  have hnew : List.foldl (fun x1 x2 => x1 ++ x2) #[] (List.replicate (if its.toArray.isEmpty = true then 0 else k.toNat) its.toArray) = (List.replicate k.toNat its).flatten.toArray := by
    have f0 : ∀ m : Nat, List.foldl (fun x1 x2 => x1 ++ x2) #[] (List.replicate m its.toArray) = (List.replicate m its).flatten.toArray := fun m => by
      have := foldl_rep its m []
      rw [List.nil_append] at this
      exact this
    rw [f0]
    cases its with
    | nil => simp
    | cons a r' => rw [if_neg (by simp)]
  refine wpAny_binaryOp_repeat_ref (T := "list") (U := "int") (by decide) ⟨_, e, rfl⟩ (fun s' => typeIs_int s' k t) noFill_list_mul F.fills_int_mul F.slot_int_rmul repeat_list F.slot_int_index.lookup
    (call_meets F.slot_int_rmul (typeIs_int s k t) F.entry_int_rmul (F.args_int_rmul_2 _ _) (int___rmul___int_list k t l its.toArray n)
      ⟨e, rfl, ⟨_, e, rfl⟩, call_meets F.slot_list_mul ⟨_, e, rfl⟩ F.entry_list_mul (F.args_list_mul_2 _ _) (AutoListH.list___mul___list_int_3 l its.toArray n k t hfit hcap hlong) ⟨e, ?_⟩⟩)
  rw [hnew]
  exact ⟨.ref _, _, I.lnew (t' := s.toks) (r.rep k.toNat) (by rw [PyProof.Rows.lm_len_rep_flat, Nat.mul_comm]; exact hz), rfl, q _ I.fresh⟩
theorem Reps.flat {K : PySem.W.Frag} {mg : Mg} {F : Hp} {vs : List V} {xs : List D} (r : Reps K mg F vs xs) : ∀ n, Reps K mg F (List.replicate n vs).flatten (List.replicate n xs).flatten
  | 0 => .nil
  | n + 1 => by
    rw [List.replicate_succ, List.replicate_succ, List.flatten_cons, List.flatten_cons]
    exact r.append (Reps.flat r n)
theorem o_add : OpR X (binaryOp .Add) (rU X.K X.mg opAdd) := by
  rintro pins s σ H x y v u Q I rx ry ⟨F, d1, d2, r, sf, h1, h2, e, q⟩
  unfold opAdd at e
  split at e
  · cases e
    cases h1.int_
    cases h2.int_
    exact op_add pins s σ H _ _ v u Q I rx ry ⟨_, _, rfl, rfl, q _ _ _ (.same sf (.int _))⟩
  · obtain ⟨z, e⟩ := okB e
    cases e
    cases h1.str_
    cases h2.str_
    exact op_add_str pins s σ H _ _ v u Q I rx ry ⟨_, _, rfl, rfl, of_decide_eq_true z, q _ _ _ (.same sf (.str _))⟩
  · obtain ⟨z, e⟩ := okB e
    cases e
    obtain ⟨a, vs, rfl, k1, z1, r1⟩ := h1.lst_ sf
    obtain ⟨b, ws, rfl, k2, z2, r2⟩ := h2.lst_ sf
    have z := of_decide_eq_true z
    have l1 := r1.length
    have l2 := r2.length
    exact op_catG pins s σ H _ _ v u Q I rx ry ⟨_, _, _, _, rfl, rfl, k1, k2, by omega, fun p hp => q _ _ _ (.own sf hp (.lst (by rw [List.length_append]; omega) (r1.append r2)))⟩
  · obtain ⟨z, e⟩ := okB e
    cases e
    obtain ⟨a, vs, rfl, k1, z1, r1⟩ := h1.tup_
    obtain ⟨b, ws, rfl, k2, z2, r2⟩ := h2.tup_
    have z := of_decide_eq_true z
    have l1 := r1.length
    have l2 := r2.length
    refine op_catA pins s σ H _ _ v u Q I rx ry ⟨_, _, _, _, rfl, rfl, same_t sf k1.sq, same_t sf k2.sq, by omega, fun e => ?_, fun _ e => ?_, fun _ _ p hp => ?_⟩
    · subst e
      cases r1
      exact q _ _ _ (.same sf (.tup k2 z2 r2))
    · subst e
      cases r2
      rw [List.append_nil] at q
      exact q _ _ _ (.same sf (.tup k1 z1 r1))
    · exact q _ _ _ (.tup sf hp (by rw [List.length_append]; omega) (r1.append r2))
  · cases e
theorem o_sub : OpR X (binaryOp .Sub) (rU X.K X.mg opSub) := by
  rintro pins s σ H x y v u Q I rx ry ⟨F, d1, d2, r, sf, h1, h2, e, q⟩
  unfold opSub at e
  split at e
  · cases e
    cases h1.int_
    cases h2.int_
    exact op_sub pins s σ H _ _ v u Q I rx ry ⟨_, _, rfl, rfl, q _ _ _ (.same sf (.int _))⟩
  · cases e
theorem o_mul : OpR X (binaryOp .Mult) (rU X.K X.mg opMul) := by
  rintro pins s σ H x y v u Q I rx ry ⟨F, d1, d2, r, sf, h1, h2, e, q⟩
  unfold opMul at e
  split at e
  · obtain ⟨z, e⟩ := okB e
    cases e
    cases h1.int_
    cases h2.int_
    have z : _ < _ := of_decide_eq_true z
    exact op_mulW pins s σ H _ _ v u Q I rx ry ⟨_, _, rfl, rfl, z, q _ _ _ (.same sf (.int _))⟩
  · obtain ⟨z, e⟩ := okB e
    cases e
    rw [Bool.and_eq_true, decide_eq_true_eq, decide_eq_true_eq] at z
    obtain ⟨⟨z1, z2⟩, z3⟩ := z
    cases h2.int_
    obtain ⟨a, vs, rfl, k1, z4, r1⟩ := h1.lst_ sf
    have l1 := r1.length
    refine op_repG pins s σ H _ _ v u Q I rx ry ⟨_, _, _, rfl, rfl, k1, z1, z2, by rw [l1]; exact z3, fun p hp => q _ _ _ (.own sf hp (.lst ?_ (r1.flat _)))⟩
    rw [PyProof.Rows.lm_len_rep_flat, l1, Nat.mul_comm]
    exact z3
  · cases e
theorem op_fdivX : OpR X (binaryOp .FloorDiv) (rI (fun _ j => j ≠ 0 ∧ j.natAbs.log2 < 9000) fun i j => .int (i.fdiv j)) := opI fun _ _ _ _ _ _ _ hc q => floordiv_int hc.1 q (.inl (PyProof.noPylong_of_log2 hc.2))
theorem o_fdiv : OpR X (binaryOp .FloorDiv) (rU X.K X.mg opFdiv) := by
  rintro pins s σ H x y v u Q I rx ry ⟨F, d1, d2, r, sf, h1, h2, e, q⟩
  unfold opFdiv at e
  split at e
  · obtain ⟨z, e⟩ := okB e
    cases e
    cases h1.int_
    cases h2.int_
    rw [decide_eq_true_eq] at z
    exact op_fdivX pins s σ H _ _ v u Q I rx ry ⟨_, _, rfl, rfl, z, q _ _ _ (.same sf (.int _))⟩
  · cases e
theorem o_mod : OpR X (binaryOp .Mod) (rU X.K X.mg opMod) := by
  rintro pins s σ H x y v u Q I rx ry ⟨F, d1, d2, r, sf, h1, h2, e, q⟩
  unfold opMod at e
  split at e
  · obtain ⟨z, e⟩ := okB e
    cases e
    cases h1.int_
    cases h2.int_
    exact op_modN pins s σ H _ _ v u Q I rx ry ⟨_, _, rfl, rfl, of_decide_eq_true z, q _ _ _ (.same sf (.int _))⟩
  · cases e
theorem o_pow : OpR X (binaryOp .Pow) (rU X.K X.mg opPow) := by
  rintro pins s σ H x y v u Q I rx ry ⟨F, d1, d2, r, sf, h1, h2, e, q⟩
  unfold opPow at e
  split at e
  · obtain ⟨z, e⟩ := okB e
    cases e
    cases h1.int_
    cases h2.int_
    have z := of_decide_eq_true z
    exact op_pow pins s σ H _ _ v u Q I rx ry ⟨_, _, rfl, rfl, z, q _ _ _ (.same sf (.int _))⟩
  · cases e
theorem o_lt : OpR X (compareOp .Lt) (rU X.K X.mg opLt) := by
  rintro pins s σ H x y v u Q I rx ry ⟨F, d1, d2, r, sf, h1, h2, e, q⟩
  unfold opLt at e
  split at e
  · cases e
    cases h1.int_
    cases h2.int_
    exact op_lt pins s σ H _ _ v u Q I rx ry ⟨_, _, rfl, rfl, q _ _ _ (.same sf (.bl _))⟩
  · cases e
theorem o_le : OpR X (compareOp .LtE) (rU X.K X.mg opLe) := by
  rintro pins s σ H x y v u Q I rx ry ⟨F, d1, d2, r, sf, h1, h2, e, q⟩
  unfold opLe at e
  split at e
  · cases e
    cases h1.int_
    cases h2.int_
    exact op_le pins s σ H _ _ v u Q I rx ry ⟨_, _, rfl, rfl, q _ _ _ (.same sf (.bl _))⟩
  · cases e
theorem o_gt : OpR X (compareOp .Gt) (rU X.K X.mg opGt) := by
  rintro pins s σ H x y v u Q I rx ry ⟨F, d1, d2, r, sf, h1, h2, e, q⟩
  unfold opGt at e
  split at e
  · cases e
    cases h1.int_
    cases h2.int_
    exact op_gt pins s σ H _ _ v u Q I rx ry ⟨_, _, rfl, rfl, q _ _ _ (.same sf (.bl _))⟩
  · cases e
theorem o_ge : OpR X (compareOp .GtE) (rU X.K X.mg opGe) := by
  rintro pins s σ H x y v u Q I rx ry ⟨F, d1, d2, r, sf, h1, h2, e, q⟩
  unfold opGe at e
  split at e
  · cases e
    cases h1.int_
    cases h2.int_
    exact op_ge pins s σ H _ _ v u Q I rx ry ⟨_, _, rfl, rfl, q _ _ _ (.same sf (.bl _))⟩
  · cases e
theorem RepT.dp {K : PySem.W.Frag} {mg : Mg} {F H : Hp} {v : V} {d : D} (h : RepT K mg F H v d) (s : Same F H) (e : okD d = true) : Dp K H v (py d) := (h.rep s).dp (PyData.hasDict_of_canLay _ (SeqAt.canLay_of_shaped e))
theorem o_eq (hu : X.A.units + 64 < cLine) : OpR X (compareOp .Eq) (rU X.K X.mg opEq) := by
  rintro pins s σ H x y v u Q I rx ry ⟨F, d1, d2, r, sf, h1, h2, e, q⟩
  unfold opEq at e
  rw [eqQ_eq] at e
  unfold eqG at e
  split at e
  case h_2 => cases e
  rename_i b e2
  split at e2
  case isFalse => cases e2
  rename_i z
  cases e2
  cases e
  rw [Bool.and_eq_true] at z
  exact op_eqD hu pins s σ H _ _ v u Q I rx ry ⟨_, _, h1.dp sf z.1, h2.dp sf z.2, z.1, z.2, q _ _ _ (.same sf (.bl _))⟩
theorem o_ne (hu : X.A.units + 64 < cLine) : OpR X (compareOp .NotEq) (rU X.K X.mg opNe) := by
  rintro pins s σ H x y v u Q I rx ry ⟨F, d1, d2, r, sf, h1, h2, e, q⟩
  unfold opNe at e
  rw [eqQ_eq] at e
  unfold eqG at e
  split at e
  case h_2 => cases e
  rename_i b e2
  split at e2
  case isFalse => cases e2
  rename_i z
  cases e2
  cases e
  rw [Bool.and_eq_true] at z
  exact op_neD hu pins s σ H _ _ v u Q I rx ry ⟨_, _, h1.dp sf z.1, h2.dp sf z.2, z.1, z.2, q _ _ _ (.same sf (.bl _))⟩
theorem o_in (hu : X.A.units + 65 < cLine) : OpR X (compareOp .In) (rU X.K X.mg opIn) := by
  rintro pins s σ H x y v u Q I rx ry ⟨F, d1, d2, r, sf, h1, h2, e, q⟩
  unfold opIn at e
  split at e
  · rw [inQ_eq] at e
    unfold inG at e
    split at e
    case h_2 => cases e
    rename_i b e3
    split at e3
    case isFalse => cases e3
    rename_i z
    cases e3
    cases e
    rw [Bool.and_eq_true] at z
    have e2 := h2.dp sf z.2
    have z2 : SeqAt.shaped (py (.lst _)) = true := z.2
    simp only [py] at e2 z2
    exact op_inD hu pins s σ H _ _ v u Q I rx ry ⟨_, _, h1.dp sf z.1, e2, z.1, z2, q _ _ _ (.same sf (.bl _))⟩
  · cases e
theorem o_notIn (hu : X.A.units + 65 < cLine) : OpR X (compareOp .NotIn) (rU X.K X.mg opNotIn) := by
  rintro pins s σ H x y v u Q I rx ry ⟨F, d1, d2, r, sf, h1, h2, e, q⟩
  unfold opNotIn at e
  split at e
  · rw [inQ_eq] at e
    unfold inG at e
    split at e
    case h_2 => cases e
    rename_i b e3
    split at e3
    case isFalse => cases e3
    rename_i z
    cases e3
    cases e
    rw [Bool.and_eq_true] at z
    have e2 := h2.dp sf z.2
    have z2 : SeqAt.shaped (py (.lst _)) = true := z.2
    simp only [py] at e2 z2
    exact op_notInD hu pins s σ H _ _ v u Q I rx ry ⟨_, _, h1.dp sf z.1, e2, z.1, z2, q _ _ _ (.same sf (.bl _))⟩
  · cases e
theorem RepT.isNon {K : PySem.W.Frag} {mg : Mg} {F H : Hp} {v : V} {d : D} (h : RepT K mg F H v d) : decide (v = .non) = isNon d := by
  cases h with
  | of h => cases h <;> rfl
  | ob _ _ e => cases d <;> first | rfl | exact Ob.cases_ e (fun _ z => nomatch z) (fun _ z => nomatch z) fun _ z => nomatch z
theorem o_isN : OpR X (compareOp .Is) (rU X.K X.mg opIsN) := by
  rintro pins s σ H x y v u Q I rx ry ⟨F, d1, d2, r, sf, h1, h2, e, q⟩
  unfold opIsN at e
  split at e
  · cases e
    refine op_isN pins s σ H _ _ v u Q I rx ry ⟨h2.non_, ?_⟩
    rw [h1.isNon]
    exact q _ _ _ (.same sf (.bl _))
  · cases e
theorem o_notN : OpR X (compareOp .IsNot) (rU X.K X.mg opNotN) := by
  rintro pins s σ H x y v u Q I rx ry ⟨F, d1, d2, r, sf, h1, h2, e, q⟩
  unfold opNotN at e
  split at e
  · cases e
    refine op_notN pins s σ H _ _ v u Q I rx ry ⟨h2.non_, ?_⟩
    rw [h1.isNon]
    exact q _ _ _ (.same sf (.bl _))
  · cases e
theorem o_isB : OpR X (compareOp .Is) (rU X.K X.mg opIsB) := by
  rintro pins s σ H x y v u Q I rx ry ⟨F, d1, d2, r, sf, h1, h2, e, q⟩
  unfold opIsB at e
  split at e
  · cases e
    exact op_isBl pins s σ H _ _ v u Q I rx ry ⟨_, _, h1.bl_, h2.bl_, q _ _ _ (.same sf (.bl _))⟩
  · cases e
theorem o_notB : OpR X (compareOp .IsNot) (rU X.K X.mg opNotB) := by
  rintro pins s σ H x y v u Q I rx ry ⟨F, d1, d2, r, sf, h1, h2, e, q⟩
  unfold opNotB at e
  split at e
  · cases e
    exact op_notBl pins s σ H _ _ v u Q I rx ry ⟨_, _, h1.bl_, h2.bl_, q _ _ _ (.same sf (.bl _))⟩
  · cases e
theorem o_neg : UnR X (unaryOp .USub) (rU1 X.K X.mg opNeg) := by
  rintro pins s σ H x v Q I rx ⟨F, d1, r, sf, h1, e, q⟩
  unfold opNeg at e
  split at e
  · cases e
    cases h1.int_
    exact un_neg pins s σ H _ v Q I rx ⟨_, rfl, q _ _ _ (.same sf (.int _))⟩
  · cases e
end
end VE

namespace G0
open PySem PySem.Spec PyProof.Rows L2
section
variable {X : Cx}
theorem tup_iter {h : Heap} {a : Addr} {items : Array Value} (hT : h.IsTuple a items) : ∀ b ∈ [h.objs.size, a], b < (h.push (iterO false a)).objs.size := by
  obtain ⟨o1, ho1, _⟩ := hT
  have := Heap.lt_size ho1
  intro b hb
  rw [Heap.size_push]
  simp only [List.mem_cons, List.not_mem_nil, or_false] at hb
  rcases hb with rfl | rfl
  · exact Nat.lt_succ_self _
  · exact Nat.lt_succ_of_lt this
def rSumA (K : PySem.W.Frag) : List V → Hp → VK → Prop := fun vs H Q => ∃ (a : Addr) (ns : List Int), vs = [V.ref a] ∧ Sq K H a (ns.map V.int) ∧ Q (.int ns.sum) H
theorem cr_sumA (calm : X.calm = true) : CallR X (.builtin "sum") (rSumA X.K) := by
  intro pn s σ H vs us Q J r h
  obtain ⟨a, ns, rfl, hs | hs, q⟩ := h
  · exact cr_sum calm pn s σ H _ us Q J r ⟨a, ns, rfl, hs, q⟩
  · rw [Vals.ref1 r]
    obtain ⟨its, rv, hl, _⟩ := J.tuple hs
    obtain ⟨o1, ho1, hc1, n1, hd1⟩ := hl
    have hT : s.heap.IsTuple a its.toArray := ⟨o1, ho1, hc1, n1, hd1⟩
    have hlt : a < s.heap.objs.size := Heap.lt_size ho1
    obtain ⟨xs, e⟩ := rv.ints.allInts.items
    have hn : numsOf (intItems xs).toList = ns := by rw [← e]; exact rv.ints.numsOf
    rw [nums_intItems] at hn
    rw [e] at hT
    refine call_sum_walkG (wpAny_pyIter_tuple hT ?_)
    refine ⟨_, _, _, _, _, _, numAt xs, rfl, Walks.tuple (A := X.A.in1) (J.ok.hd calm) _ a (Nat.ne_of_lt hlt) (intItems xs), ⟨⟨_, Heap.get?_push_size _ rfl, rfl, rfl⟩, hT.push _⟩, ?_, (fun _ _ => intItems_at), fun h2 tk t' hk => ?_⟩
    · exact tup_iter hT
    · refine ⟨.int ns.sum, H, J.kept fun b o eo => hk b o (fun mem => ?_) (Heap.get?_push_of_some _ eo), ⟨t', ?_⟩, q⟩
      · rcases List.mem_cons.mp mem with e1 | mem
        · exact absurd (e1 ▸ Heap.lt_size eo) (Nat.lt_irrefl _)
        · cases mem
      · rw [preSum_eq, List.take_of_length_le (by simp [intItems]), hn]
def rMaxA (K : PySem.W.Frag) : List V → Hp → VK → Prop := fun vs H Q => ∃ (a : Addr) (ns : List Int), vs = [V.ref a] ∧ Sq K H a (ns.map V.int) ∧ 0 < ns.length ∧ ∀ m, m ∈ ns → (∀ y, y ∈ ns → y ≤ m) → Q (.int m) H
theorem cr_maxA (calm : X.calm = true) : CallR X (.builtin "max") (rMaxA X.K) := by
  intro pn s σ H vs us Q J r h
  obtain ⟨a, ns, rfl, hs | hs, hne, q⟩ := h
  · exact cr_max calm pn s σ H _ us Q J r ⟨a, ns, rfl, hs, hne, q⟩
  · rw [Vals.ref1 r]
    obtain ⟨its, rv, hl, _⟩ := J.tuple hs
    obtain ⟨o1, ho1, hc1, n1, hd1⟩ := hl
    have hT : s.heap.IsTuple a its.toArray := ⟨o1, ho1, hc1, n1, hd1⟩
    have hlt : a < s.heap.objs.size := Heap.lt_size ho1
    obtain ⟨xs, e⟩ := rv.ints.allInts.items
    have hn : numsOf (intItems xs).toList = ns := by rw [← e]; exact rv.ints.numsOf
    rw [nums_intItems] at hn
    subst hn
    rw [e] at hT
    have hsz : 0 < xs.size := by simpa using hne
    refine call_max_walk (wpAny_pyIter_tuple hT ?_)
    refine ⟨_, _, _, _, _, _, _, rfl, Walks.tuple (A := X.A.in1) (J.ok.hd calm) _ a (Nat.ne_of_lt hlt) (intItems xs), ⟨⟨_, Heap.get?_push_size _ rfl, rfl, rfl⟩, hT.push _⟩, tup_iter hT, by simpa [intItems] using hsz, CmpOf.ints_gt (numAt xs) (fun _ _ => intItems_at), fun v h2 tk hP hk => ?_⟩
    obtain ⟨t, rfl⟩ := intItems_at hP
    obtain ⟨h1, h2'⟩ := argBest_gt (numAt xs) (xs.size - 1)
    have esz : (intItems xs).size = xs.size := by simp [intItems]
    rw [esz]
    refine ⟨.int _, H, J.kept fun b o eo => hk b o (fun mem => ?_) (Heap.get?_push_of_some _ eo), ⟨t, rfl⟩, q _ ?_ fun y hy => ?_⟩
    · rcases List.mem_cons.mp mem with e1 | mem
      · exact absurd (e1 ▸ Heap.lt_size eo) (Nat.lt_irrefl _)
      · cases mem
    · rw [numAt_eq]
      exact PySem.getD_mem (by rw [List.length_map, Array.length_toList]; omega)
    · obtain ⟨j, hj, rfl⟩ := mem_getD hy
      rw [List.length_map, Array.length_toList] at hj
      rw [← numAt_eq]
      exact h2' j (by omega)
end

/-! min of four intsD -/
theorem four_args (i j k l : Value) : argsOk "min" ⟨[i, j, k, l], []⟩ := by
  unfold argsOk
  kernel_rfl
section
variable {prog : Program} {w : World} {A : Around} {E : Value → Shared → Prop} {s : Shared}
theorem min_of_four {v1 v2 v3 v4 : Value} {Q : Value → Shared → Prop}
    (h : wpAny (model prog w) A.in1 (pyIter (.ref s.heap.objs.size)) (fun it s₂ => ∃ I fp wr n P St bt, it = .ref I ∧ Walks prog w A.in1 I fp wr n P St ∧ St 0 s₂.heap ∧ (∀ b ∈ fp, b < s₂.heap.objs.size) ∧ 0 < n ∧ CmpOf prog w A.in1 .Lt P bt ∧ ∀ v h' tk, P (argBest bt (n - 1)) v → (∀ b o, b ∉ wr → s₂.heap.get? b = some o → h'.get? b = some o) → Q v { s₂ with heap := h', toks := tk }) E { s with heap := s.heap.push { cls := .type "tuple", data := .seq #[v1, v2, v3, v4] } }) :
    wpAny (model prog w) A (call (.builtin "min") [v1, v2, v3, v4]) Q E s := by
  have nm : (toString "min" ++ toString ".loop" : String) = "min.loop" := by decide
  refine call_function_tree F.kind_min F.plain_min F.entry_min (four_args _ _ _ _) ?_
  show wpAny _ A.in1 (Builtin.Builtins.bindParams "min" ["key", "default"] 0 ⟨[], []⟩ >>= _) _ _ s; refine wpAny_bind (wpAny_of_eq (show Builtin.Builtins.bindParams "min" ["key", "default"] 0 ⟨[], []⟩ = pure [none, none] from rfl) ?_)
  show wpAny _ A.in1 (newTuple [v1, v2, v3, v4] >>= _) _ _ s
  refine wpAny_bind (wpAny_newObj_type (wpAny_bind (wpAny_mono h (fun it s₂ got => ?_) fun _ _ e => e)))
  obtain ⟨I, fp, wr, n, Pv, St, bt, rfl, W, st0, low, pos, cmp, fin⟩ := got
  refine wpAny_bind (wpAny_newObj_type ?_)
  have out : s₂.heap.objs.size ∉ fp := fun hm => Nat.lt_irrefl _ (low _ hm)
  rw [nm]
  refine wpAny_pure ⟨plainId_quiet F.plain_min_loop _, codeAny_min_loop_first W bt cmp s₂.heap.objs.size out pos (W.frame _ _ _ st0 fun b _ o e => Heap.get?_push_of_some _ e) (Heap.get?_push_size _ rfl) fun v h' tk hP hk => ?_⟩
  exact fin v h' tk hP fun b o nb e => hk b o nb (Nat.ne_of_lt (Heap.lt_size e)) (Heap.get?_push_of_some _ e)
theorem min_four_ints {i j k l : Int} {t1 t2 t3 t4 : Tok} {Q : Value → Shared → Prop} (cool : A.handled = none)
    (h : ∀ h' tk t, (∀ d o, s.heap.get? d = some o → h'.get? d = some o) → Q (.int (min (min i j) (min k l)) t) { s with heap := h', toks := tk }) :
    wpAny (model prog w) A (call (.builtin "min") [.int i t1, .int j t2, .int k t3, .int l t4]) Q E s := by
  have hT : (s.heap.push { cls := .type "tuple", data := .seq #[.int i t1, .int j t2, .int k t3, .int l t4] }).IsTuple s.heap.objs.size (intItems #[(i, t1), (j, t2), (k, t3), (l, t4)]) := ⟨_, Heap.get?_push_size _ rfl, rfl, 0, by simp [intItems]⟩
  refine min_of_four (wpAny_pyIter_tuple hT ?_)
  have sz : (s.heap.push { cls := .type "tuple", data := .seq #[.int i t1, .int j t2, .int k t3, .int l t4] }).objs.size = s.heap.objs.size + 1 := Heap.size_push ..
  refine ⟨_, [_, s.heap.objs.size], [_], _, _, _, _, rfl, Walks.tuple (A := A.in1) cool _ s.heap.objs.size (by rw [sz]; exact Nat.ne_of_lt (Nat.lt_succ_self _)) (intItems #[(i, t1), (j, t2), (k, t3), (l, t4)]), ⟨⟨_, Heap.get?_push_size _ rfl, rfl, rfl⟩, hT.push _⟩, tup_iter hT, by simp [intItems], CmpOf.ints_lt (numAt #[(i, t1), (j, t2), (k, t3), (l, t4)]) (fun _ _ => intItems_at), fun v h' tk hP hk => ?_⟩
  have old : ∀ d o, s.heap.get? d = some o → h'.get? d = some o := fun d o e => hk d o (fun mem => by
      rcases List.mem_cons.mp mem with e1 | mem
      · have := Heap.lt_size e
        rw [e1, sz] at this
        exact Nat.lt_irrefl _ (Nat.lt_of_succ_lt this)
      · cases mem) (Heap.get?_push_of_some _ (Heap.get?_push_of_some _ e))
  obtain ⟨t, rfl⟩ := intItems_at hP
  have esz : (intItems #[(i, t1), (j, t2), (k, t3), (l, t4)]).size = 4 := by simp [intItems]
  rw [esz]
  obtain ⟨g1, g2⟩ := argBest_lt (numAt #[(i, t1), (j, t2), (k, t3), (l, t4)]) 3
  have := h h' tk t old
  have e : numAt #[(i, t1), (j, t2), (k, t3), (l, t4)] (argBest (fun a b => decide (numAt #[(i, t1), (j, t2), (k, t3), (l, t4)] a < numAt #[(i, t1), (j, t2), (k, t3), (l, t4)] b)) 3) = min (min i j) (min k l) := by
    have n0 : numAt #[(i, t1), (j, t2), (k, t3), (l, t4)] 0 = i := rfl
    have n1 : numAt #[(i, t1), (j, t2), (k, t3), (l, t4)] 1 = j := rfl
    have n2 : numAt #[(i, t1), (j, t2), (k, t3), (l, t4)] 2 = k := rfl
    have n3 : numAt #[(i, t1), (j, t2), (k, t3), (l, t4)] 3 = l := rfl
    have q0 := g2 0 (by omega)
    have q1 := g2 1 (by omega)
    have q2 := g2 2 (by omega)
    have q3 := g2 3 (by omega)
    revert g1 q0 q1 q2 q3
    generalize argBest (fun a b => decide (numAt #[(i, t1), (j, t2), (k, t3), (l, t4)] a < numAt #[(i, t1), (j, t2), (k, t3), (l, t4)] b)) 3 = r
    intro g1 q0 q1 q2 q3
    rw [n0] at q0
    rw [n1] at q1
    rw [n2] at q2
    rw [n3] at q3
    have : r = 0 ∨ r = 1 ∨ r = 2 ∨ r = 3 := by omega
    rcases this with rfl | rfl | rfl | rfl
    · rw [n0] at *; omega
    · rw [n1] at *; omega
    · rw [n2] at *; omega
    · rw [n3] at *; omega
  show Q (.int (numAt #[(i, t1), (j, t2), (k, t3), (l, t4)] (argBest (fun a b => decide (numAt #[(i, t1), (j, t2), (k, t3), (l, t4)] a < numAt #[(i, t1), (j, t2), (k, t3), (l, t4)] b)) 3)) t) _
  rw [e]
  exact this
end
theorem call_min4 {X : Cx} (calm : X.calm = true) : CallR X (.builtin "min") (fun xs H Q => ∃ i j k l, xs = [V.int i, .int j, .int k, .int l] ∧ Q (.int (min (min i j) (min k l))) H) := by
  intro pn s σ H xs us Q J r h
  obtain ⟨i, j, k, l, rfl, q⟩ := h
  cases r with
  | cons r1 r => cases r with
    | cons r2 r => cases r with
      | cons r3 r => cases r with
        | cons r4 r =>
          cases r
          obtain ⟨t1, rfl⟩ := r1
          obtain ⟨t2, rfl⟩ := r2
          obtain ⟨t3, rfl⟩ := r3
          obtain ⟨t4, rfl⟩ := r4
          exact min_four_ints (J.ok.hd calm) fun h' tk t keep => (⟨V.int (min (min i j) (min k l)), H, J.kept keep, ⟨t, rfl⟩, q⟩ : ∃ v H', Inv X pn σ H' _ ∧ RelV v _ ∧ Q v H')
section
variable {X : Cx}
theorem cr_range2 : CallR X (.type "range") (fun vs H Q => ∃ i j, vs = [V.int i, V.int j] ∧ ∀ p, H p = none → Q (.ref p) (upd H p (.rng i j))) := by
  intro pins s σ H vs us Q J r h
  obtain ⟨i, j, rfl, q⟩ := h
  obtain ⟨u, v, rfl, ⟨t, rfl⟩, ⟨t2, rfl⟩⟩ := vals2 r
  refine call_range_2 ⟨.ref s.heap.objs.size, upd H s.heap.objs.size (.rng i j), J.laid (t' := s.toks + 1) (fun b o e => Heap.get?_push_of_some _ e) (Nat.le_refl _) ?_, rfl, q _ (J.hok.fresh (Nat.le_refl _))⟩
  exact ⟨t, t2, s.toks, Heap.get?_push_size _ rfl⟩
theorem cr_range1 : CallR X (.type "range") (fun vs H Q => ∃ j, vs = [V.int j] ∧ ∀ p, H p = none → Q (.ref p) (upd H p (.rng 0 j))) := by
  intro pins s σ H vs us Q J r h
  obtain ⟨j, rfl, q⟩ := h
  obtain ⟨u, rfl, t, rfl⟩ := vals1 r
  refine call_range_1 ⟨.ref s.heap.objs.size, upd H s.heap.objs.size (.rng 0 j), J.laid (t' := s.toks + 1 + 1) (fun b o e => Heap.get?_push_of_some _ e) (Nat.le_refl _) ?_, rfl, q _ (J.hok.fresh (Nat.le_refl _))⟩
  exact ⟨s.toks, t, s.toks + 1, Heap.get?_push_size _ rfl⟩
theorem vals_fromI (lo : Int) : ∀ (n : Nat) {acc : List Value} (k : Nat), acc.length = n → (∀ j v, acc[j]? = some v → ∃ t, v = Value.int (lo + ((k + j : Nat) : Int)) t) → Vals ((List.range' k n).map fun i => V.int (lo + (i : Nat))) acc
  | 0, acc, k, h, _ => by
    rw [List.length_eq_zero_iff.mp h]
    exact .nil
  | n + 1, [], k, h, _ => by cases h
  | n + 1, v :: acc, k, h, all => by
    obtain ⟨t, e⟩ := all 0 v rfl
    rw [List.range'_succ]
    refine .cons ⟨t, e⟩ (vals_fromI lo n (k + 1) (Nat.succ.inj h) fun j u hj => ?_)
    obtain ⟨t2, e2⟩ := all (j + 1) u hj
    exact ⟨t2, by rw [e2]; congr 1; omega⟩
theorem rangeSize_int (lo hi : Int) : Builtin.Range.rangeSize lo hi 1 = (((hi - lo).toNat : Nat) : Int) := by
  rw [rangeSize_one]
  split <;> omega
/-- list(range(lo, hi)) -/
theorem cr_listRng (calm : X.calm = true) : CallR X (.type "list") (fun vs H Q => ∃ (r : Addr) (n : Nat) (lo hi : Int), vs = [V.ref r] ∧ H r = some (.rng lo hi) ∧ n = (hi - lo).toNat ∧ (-(2 ^ 62) ≤ lo ∧ lo < 2 ^ 62 ∧ -(2 ^ 62) ≤ hi ∧ hi < 2 ^ 62) ∧ n ≤ 1000000 ∧ ∀ l, H l = none → Q (.ref l) (upd H l (.lst ((List.range' 0 n).map fun i => V.int (lo + (i : Nat)))))) := by
  intro pins s σ H vs us Q J rv h
  obtain ⟨r, n, lo, hi, rfl, hr, rfl, ⟨b1, b2, b3, b4⟩, hn, q⟩ := h
  obtain ⟨u, rfl, ru⟩ := vals1 rv
  cases ru
  obtain ⟨t, u, v, look⟩ := (show ∃ t u v, s.heap.get? r = some { cls := .type "range", data := .fields #[.int lo t, .int hi u, .int 1 v] } from J.hok r _ hr)
  refine call_list_range (n := (hi - lo).toNat) (J.ok.hd calm) look ?_ ?_ (by omega) fun h2 tk acc c2 kept hS items => ?_
  · exact small_one (by omega) (by omega) (by omega) (by omega)
  · rw [rangeSize_int]
  · obtain ⟨size, each⟩ := items
    have fr : H s.heap.objs.size = none := J.hok.fresh (Nat.le_refl _)
    refine ⟨.ref s.heap.objs.size, upd H s.heap.objs.size (.lst ((List.range' 0 (hi - lo).toNat).map fun i => V.int (lo + (i : Nat)))), J.laid (t' := tk) kept (Nat.le_refl _) ⟨?_, acc.toList, c2, ?_, hS⟩, rfl, q _ fr⟩
    · rw [List.length_map, List.length_range']
      exact Nat.le_trans hn (by decide)
    · refine vals_fromI lo _ 0 (by simpa using size) fun j v hj => ?_
      obtain ⟨t, e⟩ := each j v (by simpa using hj)
      exact ⟨t, by rw [e]; congr 1⟩
end
end G0
namespace VE
open PySem PySem.Spec PyProof.Rows L2 G0
/-! ### built-in calls -/
theorem b_isinstance : bootBuiltins "isinstance" = some (.builtin "isinstance") := by decide +kernel
theorem b_int : bootBuiltins "int" = some (.type "int") := by decide +kernel
theorem b_bool : bootBuiltins "bool" = some (.type "bool") := by decide +kernel
theorem b_list : bootBuiltins "list" = some (.type "list") := by decide +kernel
theorem b_tuple : bootBuiltins "tuple" = some (.type "tuple") := by decide +kernel
theorem b_all : bootBuiltins "all" = some (.builtin "all") := by decide +kernel
theorem b_any : bootBuiltins "any" = some (.builtin "any") := by decide +kernel
theorem b_sum : bootBuiltins "sum" = some (.builtin "sum") := by decide +kernel
theorem b_max : bootBuiltins "max" = some (.builtin "max") := by decide +kernel
theorem b_min : bootBuiltins "min" = some (.builtin "min") := by decide +kernel
theorem b_abs : bootBuiltins "abs" = some (.builtin "abs") := by decide +kernel
theorem b_len : bootBuiltins "len" = some (.builtin "len") := by decide +kernel
theorem b_divmod : bootBuiltins "divmod" = some (.builtin "divmod") := by decide +kernel
theorem b_repr : bootBuiltins "repr" = some (.builtin "repr") := by decide +kernel
theorem b_sorted : bootBuiltins "sorted" = some (.builtin "sorted") := by decide +kernel
theorem b_range : bootBuiltins "range" = some (.type "range") := by decide +kernel
theorem b_str : bootBuiltins "str" = some (.type "str") := by decide +kernel
theorem b_dict : bootBuiltins "dict" = some (.type "dict") := by decide +kernel
theorem b_set : bootBuiltins "set" = some (.type "set") := by decide +kernel
def intsD : List D → Option (List Int)
  | [] => some []
  | .int i :: ds => (intsD ds).map (i :: ·)
  | _ => none
def boolsD : List D → Option (List Bool)
  | [] => some []
  | .bl i :: ds => (boolsD ds).map (i :: ·)
  | _ => none
section
variable {K : PySem.W.Frag} {mg : Mg} {H : Hp}
theorem Reps.ints_ : ∀ {vs : List V} {ds : List D} {ns : List Int}, Reps K mg H vs ds → intsD ds = some ns → vs = ns.map V.int
  | _, _, _, .nil, e => by cases e; rfl
  | _, _, _, .cons (d := d) (ds := ds) h r, e => by
    cases d <;> try (cases e; done)
    cases h
    unfold intsD at e
    cases q : intsD ds with
    | none => rw [q] at e; cases e
    | some ns =>
      rw [q] at e
      cases e
      rw [Reps.ints_ r q]
      rfl
theorem Reps.bools_ : ∀ {vs : List V} {ds : List D} {ns : List Bool}, Reps K mg H vs ds → boolsD ds = some ns → vs = ns.map V.bl
  | _, _, _, .nil, e => by cases e; rfl
  | _, _, _, .cons (d := d) (ds := ds) h r, e => by
    cases d <;> try (cases e; done)
    cases h
    unfold boolsD at e
    cases q : boolsD ds with
    | none => rw [q] at e; cases e
    | some ns =>
      rw [q] at e
      cases e
      rw [Reps.bools_ r q]
      rfl
end
def bLen : List D → Option RV
  | [.lst xs] => rI' xs.length
  | [.tup xs] => rI' xs.length
  | [.str x] => if szOk x.length then rI' x.length else none
  | _ => none
/-- the class of data, by name -/
def tyN : D → Option TyN
  | .non => some .none
  | .bl _ => some .bool
  | .int _ => some .int
  | .str _ => some .str
  | .lst _ => some .list
  | .tup _ => some .tuple
  | .dK _ => some .dict
  | .dT _ => some .dict
  | _ => none
def isTy (T n : TyN) : Option Bool := match n with
  | .int => some (match T with | .int => true | .bool => true | _ => false)
  | .bool => some (match T with | .bool => true | _ => false)
  | .list => some (match T with | .list => true | _ => false)
  | .tuple => some (match T with | .tuple => true | _ => false)
  | .dict => some (match T with | .dict => true | _ => false)
  | .str => some (match T with | .str => true | _ => false)
  | _ => none
def isAny (T : TyN) : List D → Option Bool
  | [] => some false
  | .ty n :: cs => match isTy T n, isAny T cs with
    | some b, some c => some (b || c)
    | _, _ => none
  | _ => none
def bIsi : List D → Option RV
  | [d, .ty n] => (tyN d).bind fun T => (isTy T n).bind rB
  | [d, .tup cs] => (tyN d).bind fun T => (isAny T cs).bind rB
  | _ => none
def bAll : List D → Option RV
  | [.lst xs] => (boolsD xs).bind fun bs => rB (bs.all id)
  | _ => none
def bAny : List D → Option RV
  | [.lst xs] => match boolsD xs with
    | some bs => rB (bs.any id)
    | none => (intsD xs).bind fun ns => rB (ns.any fun n => n != 0)
  | [.tup xs] => (intsD xs).bind fun ns => rB (ns.any fun n => n != 0)
  | _ => none
def bSum : List D → Option RV
  | [.lst xs] => (intsD xs).bind fun ns => rI' ns.sum
  | [.tup xs] => (intsD xs).bind fun ns => rI' ns.sum
  | _ => none
def maxI : List Int → Option Int
  | [] => none
  | n :: ns => some (ns.foldl max n)
def minI : List Int → Option Int
  | [] => none
  | n :: ns => some (ns.foldl min n)
def bMax : List D → Option RV
  | [.lst xs] => (intsD xs).bind fun ns => (maxI ns).bind rI'
  | [.tup xs] => (intsD xs).bind fun ns => (maxI ns).bind rI'
  | [.int i, .int j] => rI' (if j > i then j else i)
  | _ => none
def bMin : List D → Option RV
  | [.lst xs] => (intsD xs).bind fun ns => (minI ns).bind rI'
  | [.int i, .int j] => rI' (if j < i then j else i)
  | [.int i, .int j, .int k, .int l] => rI' (min (min i j) (min k l))
  | _ => none
def bAbs : List D → Option RV
  | [.int i] => rI' (if i < 0 then -i else i)
  | _ => none
def bInt : List D → Option RV
  | [.int i] => rI' i
  | [.bl k] => rI' (if k then 1 else 0)
  | _ => none
def okR (d : D) : Bool := (py d).showable && !(py d).hasDict && decide ((py d).depth ≤ 16) && decide ((py d).shown.length ≤ sizeLine)
def bRepr : List D → Option RV
  | [d] => if okR d then some (.val (.str (py d).shown)) else none
  | _ => none
def bStr : List D → Option RV
  | [.int i] => if decide (i.natAbs.log2 < 1920) then some (.val (.str (toString i))) else none
  | _ => none
def rngs (lo hi : Int) : List D := (List.range' 0 (hi - lo).toNat).map fun i => .int (lo + (i : Nat))
abbrev rngOk (lo hi : Int) : Bool := decide ((-(2 ^ 62) ≤ lo ∧ lo < 2 ^ 62 ∧ -(2 ^ 62) ≤ hi ∧ hi < 2 ^ 62) ∧ (hi - lo).toNat ≤ 1000000)
def bList : List D → Option RV
  | [.lst xs] => some (.own (.lst xs))
  | [.tup xs] => some (.own (.lst xs))
  | [.rng lo hi] => if rngOk lo hi then some (.own (.lst (rngs lo hi))) else none
  | _ => none
def bTuple : List D → Option RV
  | [.lst xs] => some (.val (.tup xs))
  | [.tup xs] => some (.val (.tup xs))
  | _ => none
def bDivmod : List D → Option RV
  | [.int i, .int j] => if decide (0 < j ∧ j < 1073741824) then some (.val (.tup [.int (i / j), .int (i % j)])) else none
  | _ => none
def bGcd : List D → Option RV
  | [.int i, .int j] => rI' ((Nat.gcd i.natAbs j.natAbs : Nat) : Int)
  | _ => none
def bRange : List D → Option RV
  | [.int i, .int j] => some (.val (.rng i j))
  | [.int j] => some (.val (.rng 0 j))
  | _ => none
def isTup1 : PyData → Bool
  | .tuple (_ :: _) => true
  | _ => false
def notTup : PyData → Bool
  | .tuple _ => false
  | .none => false
  | _ => true
abbrev sortOk (xs : List D) : Bool := (xs.all fun a => xs.all fun b => PySem.W.alike (py a) (py b)) && (xs.all (fun a => isTup1 (py a)) || xs.all (fun a => notTup (py a))) && xs.all fun a => decide ((py a).canLay0 = true ∧ (py a).depth ≤ 16)
/-! sorting that reduces -/
def mergeF {α : Type} (le : α → α → Bool) : Nat → List α → List α → List α
  | 0, xs, ys => xs ++ ys
  | _ + 1, [], ys => ys
  | _ + 1, x :: xs, [] => x :: xs
  | n + 1, x :: xs, y :: ys => if le x y then x :: mergeF le n xs (y :: ys) else y :: mergeF le n (x :: xs) ys
theorem mergeF_eq {α : Type} (le : α → α → Bool) : ∀ (n : Nat) (xs ys : List α), xs.length + ys.length ≤ n → mergeF le n xs ys = xs.merge ys le
  | 0, [], [], _ => by simp [mergeF]
  | 0, x :: xs, _, h => by simp at h
  | 0, [], y :: ys, h => by simp at h
  | n + 1, [], ys, _ => by simp [mergeF]
  | n + 1, x :: xs, [], _ => by simp [mergeF]
  | n + 1, x :: xs, y :: ys, h => by
    simp only [List.length_cons] at h
    rw [mergeF, List.merge, mergeF_eq le n xs (y :: ys) (by simp only [List.length_cons]; omega), mergeF_eq le n (x :: xs) ys (by simp only [List.length_cons]; omega)]
def msortF {α : Type} (le : α → α → Bool) : Nat → List α → List α
  | 0, xs => xs
  | _ + 1, [] => []
  | _ + 1, [a] => [a]
  | n + 1, a :: b :: r => mergeF le (r.length + 2) (msortF le n ((a :: b :: r).take ((r.length + 2 + 1) / 2))) (msortF le n ((a :: b :: r).drop ((r.length + 2 + 1) / 2)))
theorem msortF_len {α : Type} (le : α → α → Bool) : ∀ (n : Nat) (xs : List α), xs.length ≤ n → msortF le n xs = xs.mergeSort le
  | 0, [], _ => by simp [msortF]
  | 0, _ :: _, h => by simp at h
  | _ + 1, [], _ => by simp [msortF]
  | _ + 1, [a], _ => by simp [msortF]
  | n + 1, a :: b :: r, h => by
    simp only [List.length_cons] at h
    have l1 : ((a :: b :: r).take ((r.length + 2 + 1) / 2)).length = (r.length + 2 + 1) / 2 := by rw [List.length_take]; simp only [List.length_cons]; omega
    have l2 : ((a :: b :: r).drop ((r.length + 2 + 1) / 2)).length = r.length + 2 - (r.length + 2 + 1) / 2 := by rw [List.length_drop]; simp only [List.length_cons]
    have e1 := msortF_len le n _ (show ((a :: b :: r).take ((r.length + 2 + 1) / 2)).length ≤ n by omega)
    have e2 := msortF_len le n _ (show ((a :: b :: r).drop ((r.length + 2 + 1) / 2)).length ≤ n by omega)
    rw [msortF, e1, e2, mergeF_eq]
    · rw [List.mergeSort]
      simp only [List.MergeSort.Internal.splitInTwo_fst, List.MergeSort.Internal.splitInTwo_snd, List.length_cons]
    · rw [List.length_mergeSort, List.length_mergeSort, l1, l2]
      omega
def msort {α : Type} (le : α → α → Bool) (xs : List α) : List α := msortF le xs.length xs
theorem msort_eq {α : Type} (le : α → α → Bool) (xs : List α) : msort le xs = xs.mergeSort le := msortF_len le _ _ (Nat.le_refl _)
def bSorted : List D → Option RV
  | [.lst xs] => if sortOk xs then some (.own (.lst (msort (PySem.W.dataLe false py) xs))) else none
  | _ => none
theorem opt_bind {α β : Type} {o : Option α} {f : α → Option β} {b : β} (h : o.bind f = some b) : ∃ a, o = some a ∧ f a = some b := by
  cases o with
  | none => cases h
  | some a => exact ⟨a, rfl, h⟩
theorem maxI_ok : ∀ {ns : List Int} {m : Int}, maxI ns = some m → 0 < ns.length ∧ ∀ k, k ∈ ns → (∀ y ∈ ns, y ≤ k) → k = m := by
  intro ns m e
  cases ns with
  | nil => cases e
  | cons n ns =>
    cases e
    refine ⟨by simp, ?_⟩
    have key : ∀ (ns : List Int) (n : Int), ns.foldl max n ∈ n :: ns ∧ ∀ y ∈ n :: ns, y ≤ ns.foldl max n := by
      intro ns
      induction ns with
      | nil => intro n; simp
      | cons a ns ih =>
        intro n
        obtain ⟨h1, h2⟩ := ih (max n a)
        rw [List.foldl_cons]
        refine ⟨?_, fun y hy => ?_⟩
        · rcases List.mem_cons.mp h1 with h | h
          · rw [h]
            by_cases q : n ≤ a
            · rw [Int.max_eq_right q]; simp
            · rw [Int.max_eq_left (by omega)]; simp
          · simp [h]
        · have h0 := h2 (max n a) List.mem_cons_self
          rcases List.mem_cons.mp hy with rfl | hy
          · exact Int.le_trans (Int.le_max_left _ _) h0
          · rcases List.mem_cons.mp hy with rfl | hy
            · exact Int.le_trans (Int.le_max_right _ _) h0
            · exact h2 y (List.mem_cons_of_mem _ hy)
    obtain ⟨h1, h2⟩ := key ns n
    exact fun k hk hm => Int.le_antisymm (h2 k hk) (hm _ h1)
theorem minI_ok : ∀ {ns : List Int} {m : Int}, minI ns = some m → 0 < ns.length ∧ ∀ k, k ∈ ns → (∀ y ∈ ns, k ≤ y) → k = m := by
  intro ns m e
  cases ns with
  | nil => cases e
  | cons n ns =>
    cases e
    refine ⟨by simp, ?_⟩
    have key : ∀ (ns : List Int) (n : Int), ns.foldl min n ∈ n :: ns ∧ ∀ y ∈ n :: ns, ns.foldl min n ≤ y := by
      intro ns
      induction ns with
      | nil => intro n; simp
      | cons a ns ih =>
        intro n
        obtain ⟨h1, h2⟩ := ih (min n a)
        rw [List.foldl_cons]
        refine ⟨?_, fun y hy => ?_⟩
        · rcases List.mem_cons.mp h1 with h | h
          · rw [h]
            by_cases q : n ≤ a
            · rw [Int.min_eq_left q]; simp
            · rw [Int.min_eq_right (by omega)]; simp
          · simp [h]
        · have h0 := h2 (min n a) List.mem_cons_self
          rcases List.mem_cons.mp hy with rfl | hy
          · exact Int.le_trans h0 (Int.min_le_left _ _)
          · rcases List.mem_cons.mp hy with rfl | hy
            · exact Int.le_trans h0 (Int.min_le_right _ _)
            · exact h2 y (List.mem_cons_of_mem _ hy)
    obtain ⟨h1, h2⟩ := key ns n
    exact fun k hk hm => Int.le_antisymm (hm _ h1) (h2 k hk)
theorem isTy_kit {K : PySem.W.Frag} {d : D} {T n : TyN} {b : Bool} (hd : tyN d = some T) (h : isTy T n = some b) : PySem.W.kitOne K (.type T.s) (.type n.s) = some b := by
  cases d <;> cases hd <;> cases n <;> cases h <;> exact kit_ty (by decide +kernel)
section
variable {X : Cx}
theorem ty_rd {K : PySem.W.Frag} {H : Hp} {a : Addr} {xs : List V} (h : LstR K H a xs) : TyX K H (.ref a) (.type "list") := ty_l h.sq
theorem Rep.tyx {K : PySem.W.Frag} {mg : Mg} {H : Hp} {v : V} {d : D} {T : TyN} (h : Rep K mg H v d) (e : tyN d = some T) : TyX K H v (.type T.s) := by
  cases h with
  | non => cases e; exact .base .non
  | bl b => cases e; exact .base (.bl b)
  | int b => cases e; exact .base (.int b)
  | str b => cases e; exact .base (.str b)
  | lst h _ _ => cases e; exact ty_rd h
  | tup h _ _ => cases e; exact ty_t h.sq
  | dK h _ => cases e; exact .base (.dK h)
  | dT h _ => cases e; exact .base (.dT h)
  | fT h _ _ => cases e
  | ty _ => cases e
  | cls _ => cases e
  | obj _ _ _ => cases e
  | rng _ => cases e
end
end VE

namespace VE
open PySem PySem.Spec PyProof.Rows L2 G0
theorem RepT.rng_ {K : PySem.W.Frag} {mg : Mg} {F H : Hp} {v : V} {lo hi : Int} (h : RepT K mg F H v (.rng lo hi)) : ∃ a, v = .ref a ∧ F a = some (.rng lo hi) := by
  cases h with
  | of h => cases h with | rng h => exact ⟨_, rfl, h⟩
  | ob _ _ e => exact Ob.cases_ e (fun _ z => nomatch z) (fun _ z => nomatch z) fun _ z => nomatch z
theorem map_reps {K : PySem.W.Frag} {mg : Mg} {F : Hp} {α : Type} {f : α → V} {g : α → D} (h : ∀ a, Rep K mg F (f a) (g a)) : ∀ l : List α, Reps K mg F (l.map f) (l.map g)
  | [] => .nil
  | a :: l => .cons (h a) (map_reps h l)
theorem rngs_reps {K : PySem.W.Frag} {mg : Mg} {F : Hp} (lo : Int) (n : Nat) : Reps K mg F ((List.range' 0 n).map fun i => V.int (lo + (i : Nat))) ((List.range' 0 n).map fun i => D.int (lo + (i : Nat))) := map_reps (fun _ => .int _) _
theorem Paired_eq : ∀ {vs : List V} {cs us : List Value}, Paired ClsV vs cs → Vals vs us → us = cs
  | _, _, _, .nil, .nil => rfl
  | _, _, _, .cons h p, .cons r q => by rw [h.eq r, Paired_eq p q]
section
variable {X : Cx}
theorem c_len : CallR X (.builtin "len") (rC X.K X.mg bLen) := by
  rintro pins s σ H vs us Q I rv ⟨F, ds, r, sf, hs, e, q⟩
  unfold bLen at e
  split at e
  · cases e
    obtain ⟨v, rfl, h⟩ := hs.one
    obtain ⟨a, ws, rfl, k, z, rr⟩ := h.lst_ sf
    refine call_len_seq pins s σ H _ us Q I rv ⟨a, ws, rfl, .inl k.sq, ?_⟩
    rw [rr.length]
    exact q _ _ _ (.same sf (.int _))
  · cases e
    obtain ⟨v, rfl, h⟩ := hs.one
    obtain ⟨a, ws, rfl, k, z, rr⟩ := h.tup_
    refine call_len_seq pins s σ H _ us Q I rv ⟨a, ws, rfl, .inr (same_t sf k.sq), ?_⟩
    rw [rr.length]
    exact q _ _ _ (.same sf (.int _))
  · obtain ⟨z, e⟩ := okB e
    cases e
    obtain ⟨v, rfl, h⟩ := hs.one
    cases h.str_
    exact call_len pins s σ H _ us Q I rv ⟨_, _, rfl, ⟨of_decide_eq_true z, rfl⟩, q _ _ _ (.same sf (.int _))⟩
  · cases e
theorem isAny_kit {K : PySem.W.Frag} {mg : Mg} {F : Hp} {d : D} {T : TyN} (hd : tyN d = some T) : ∀ {cs : List D} {b : Bool} {vs : List V}, Reps K mg F vs cs → isAny T cs = some b → ∃ us, Paired ClsV vs us ∧ PySem.W.kitAny K (.type T.s) us = some b
  | [], b, _, r, e => by
    cases r
    cases e
    exact ⟨[], .nil, rfl⟩
  | c :: cs, b, _, r, e => by
    cases r with
    | cons h r =>
      cases c <;> try (cases e; done)
      rename_i n
      cases h
      unfold isAny at e
      cases q : isTy T n with
      | none => rw [q] at e; cases e
      | some b1 =>
        cases q2 : isAny T cs with
        | none => rw [q, q2] at e; cases e
        | some b2 =>
          rw [q, q2] at e
          obtain ⟨us, p, k⟩ := isAny_kit hd r q2
          cases b1 with
          | true =>
            cases e
            exact ⟨.type n.s :: us, .cons (.ty n.s) p, kitAny_cons (isTy_kit hd q) (fun z => nomatch z) fun _ => by simp⟩
          | false =>
            cases e
            exact ⟨.type n.s :: us, .cons (.ty n.s) p, kitAny_cons (isTy_kit hd q) (fun _ => by simpa using k) fun z => nomatch z⟩
theorem RepT.tyx {K : PySem.W.Frag} {mg : Mg} {F H : Hp} {v : V} {d : D} {T : TyN} (h : RepT K mg F H v d) (s : Same F H) (e : tyN d = some T) : TyX K H v (.type T.s) := (h.rep s).tyx e
theorem c_isi : CallR X (.builtin "isinstance") (rC X.K X.mg bIsi) := by
  rintro pins s σ H vs us Q I rv ⟨F, ds, r, sf, hs, e, q⟩
  unfold bIsi at e
  split at e
  · obtain ⟨T, hT, e⟩ := opt_bind e
    obtain ⟨b, hb, e⟩ := opt_bind e
    cases e
    obtain ⟨v, w, rfl, h1, h2⟩ := hs.two
    cases h2.ty_
    exact call_isi pins s σ H _ us Q I rv ⟨_, _, _, _, b, rfl, .ty _, h1.tyx sf hT, isTy_kit hT hb, q _ _ _ (.same sf (.bl _))⟩
  · obtain ⟨T, hT, e⟩ := opt_bind e
    obtain ⟨b, hb, e⟩ := opt_bind e
    cases e
    obtain ⟨v, w, rfl, h1, h2⟩ := hs.two
    obtain ⟨a, ws, rfl, k, z, rr⟩ := h2.tup_
    obtain ⟨cs, pc, kk⟩ := isAny_kit (K := X.K) hT rr hb
    exact call_isiT pins s σ H _ us Q I rv ⟨_, a, _, _, _, b, rfl, sf _ _ k, pc, h1.tyx sf hT, kk, q _ _ _ (.same sf (.bl _))⟩
  · cases e
theorem c_all (hc : X.calm = true) : CallR X (.builtin "all") (rC X.K X.mg bAll) := by
  rintro pins s σ H vs us Q I rv ⟨F, ds, r, sf, hs, e, q⟩
  unfold bAll at e
  split at e
  · obtain ⟨bs, hb, e⟩ := opt_bind e
    cases e
    obtain ⟨v, rfl, h⟩ := hs.one
    obtain ⟨a, ws, rfl, k, z, rr⟩ := h.lst_ sf
    cases rr.bools_ hb
    exact cr_all hc pins s σ H _ us Q I rv ⟨a, bs, rfl, k.sq, q _ _ _ (.same sf (.bl _))⟩
  · cases e
theorem c_any (hc : X.calm = true) : CallR X (.builtin "any") (rC X.K X.mg bAny) := by
  rintro pins s σ H vs us Q I rv ⟨F, ds, r, sf, hs, e, q⟩
  unfold bAny at e
  split at e
  · obtain ⟨v, rfl, h⟩ := hs.one
    obtain ⟨a, ws, rfl, k, z, rr⟩ := h.lst_ sf
    split at e
    · rename_i bs hb
      cases e
      cases rr.bools_ hb
      exact cr_any hc pins s σ H _ us Q I rv ⟨a, bs, rfl, k.sq, q _ _ _ (.same sf (.bl _))⟩
    · obtain ⟨ns, hn, e⟩ := opt_bind e
      cases e
      cases rr.ints_ hn
      exact cr_anyI hc pins s σ H _ us Q I rv ⟨a, ns, rfl, .inl k.sq, q _ _ _ (.same sf (.bl _))⟩
  · obtain ⟨ns, hn, e⟩ := opt_bind e
    cases e
    obtain ⟨v, rfl, h⟩ := hs.one
    obtain ⟨a, ws, rfl, k, z, rr⟩ := h.tup_
    cases rr.ints_ hn
    exact cr_anyI hc pins s σ H _ us Q I rv ⟨a, ns, rfl, .inr (same_t sf k.sq), q _ _ _ (.same sf (.bl _))⟩
  · cases e
theorem c_sum (hc : X.calm = true) : CallR X (.builtin "sum") (rC X.K X.mg bSum) := by
  rintro pins s σ H vs us Q I rv ⟨F, ds, r, sf, hs, e, q⟩
  unfold bSum at e
  split at e
  · obtain ⟨ns, hn, e⟩ := opt_bind e
    cases e
    obtain ⟨v, rfl, h⟩ := hs.one
    obtain ⟨a, ws, rfl, k, z, rr⟩ := h.lst_ sf
    cases rr.ints_ hn
    exact cr_sumA hc pins s σ H _ us Q I rv ⟨a, ns, rfl, .inl k.sq, q _ _ _ (.same sf (.int _))⟩
  · obtain ⟨ns, hn, e⟩ := opt_bind e
    cases e
    obtain ⟨v, rfl, h⟩ := hs.one
    obtain ⟨a, ws, rfl, k, z, rr⟩ := h.tup_
    cases rr.ints_ hn
    exact cr_sumA hc pins s σ H _ us Q I rv ⟨a, ns, rfl, .inr (same_t sf k.sq), q _ _ _ (.same sf (.int _))⟩
  · cases e
theorem c_max (hc : X.calm = true) : CallR X (.builtin "max") (rC X.K X.mg bMax) := by
  rintro pins s σ H vs us Q I rv ⟨F, ds, r, sf, hs, e, q⟩
  unfold bMax at e
  split at e
  · obtain ⟨ns, hn, e⟩ := opt_bind e
    obtain ⟨m, hm, e⟩ := opt_bind e
    cases e
    obtain ⟨v, rfl, h⟩ := hs.one
    obtain ⟨a, ws, rfl, k, z, rr⟩ := h.lst_ sf
    cases rr.ints_ hn
    obtain ⟨ne, is⟩ := maxI_ok hm
    refine cr_maxA hc pins s σ H _ us Q I rv ⟨a, ns, rfl, .inl k.sq, ne, fun k h1 h2 => ?_⟩
    rw [is k h1 h2]
    exact q _ _ _ (.same sf (.int _))
  · obtain ⟨ns, hn, e⟩ := opt_bind e
    obtain ⟨m, hm, e⟩ := opt_bind e
    cases e
    obtain ⟨v, rfl, h⟩ := hs.one
    obtain ⟨a, ws, rfl, k, z, rr⟩ := h.tup_
    cases rr.ints_ hn
    obtain ⟨ne, is⟩ := maxI_ok hm
    refine cr_maxA hc pins s σ H _ us Q I rv ⟨a, ns, rfl, .inr (same_t sf k.sq), ne, fun k h1 h2 => ?_⟩
    rw [is k h1 h2]
    exact q _ _ _ (.same sf (.int _))
  · cases e
    obtain ⟨v, w, rfl, h1, h2⟩ := hs.two
    cases h1.int_
    cases h2.int_
    exact call_max2 hc pins s σ H _ us Q I rv ⟨_, _, rfl, q _ _ _ (.same sf (.int _))⟩
  · cases e
theorem c_min (hc : X.calm = true) : CallR X (.builtin "min") (rC X.K X.mg bMin) := by
  rintro pins s σ H vs us Q I rv ⟨F, ds, r, sf, hs, e, q⟩
  unfold bMin at e
  split at e
  · obtain ⟨ns, hn, e⟩ := opt_bind e
    obtain ⟨m, hm, e⟩ := opt_bind e
    cases e
    obtain ⟨v, rfl, h⟩ := hs.one
    obtain ⟨a, ws, rfl, k, z, rr⟩ := h.lst_ sf
    cases rr.ints_ hn
    obtain ⟨ne, is⟩ := minI_ok hm
    refine cr_min hc pins s σ H _ us Q I rv ⟨a, ns, rfl, k.sq, ne, fun k h1 h2 => ?_⟩
    rw [is k h1 h2]
    exact q _ _ _ (.same sf (.int _))
  · cases e
    obtain ⟨v, w, rfl, h1, h2⟩ := hs.two
    cases h1.int_
    cases h2.int_
    exact call_min2 hc pins s σ H _ us Q I rv ⟨_, _, rfl, q _ _ _ (.same sf (.int _))⟩
  · cases e
    cases hs with
    | cons h1 hs => cases hs with
      | cons h2 hs =>
        obtain ⟨v3, v4, rfl, h3, h4⟩ := hs.two
        cases h1.int_
        cases h2.int_
        cases h3.int_
        cases h4.int_
        exact call_min4 hc pins s σ H _ us Q I rv ⟨_, _, _, _, rfl, q _ _ _ (.same sf (.int _))⟩
  · cases e
theorem c_abs : CallR X (.builtin "abs") (rC X.K X.mg bAbs) := by
  rintro pins s σ H vs us Q I rv ⟨F, ds, r, sf, hs, e, q⟩
  unfold bAbs at e
  split at e
  · cases e
    obtain ⟨v, rfl, h⟩ := hs.one
    cases h.int_
    exact call_abs pins s σ H _ us Q I rv ⟨_, rfl, q _ _ _ (.same sf (.int _))⟩
  · cases e
theorem c_int : CallR X (.type "int") (rC X.K X.mg bInt) := by
  rintro pins s σ H vs us Q I rv ⟨F, ds, r, sf, hs, e, q⟩
  unfold bInt at e
  split at e
  · cases e
    obtain ⟨v, rfl, h⟩ := hs.one
    cases h.int_
    exact call_int1 pins s σ H _ us Q I rv (.inl ⟨_, rfl, q _ _ _ (.same sf (.int _))⟩)
  · cases e
    obtain ⟨v, rfl, h⟩ := hs.one
    cases h.bl_
    exact call_int1 pins s σ H _ us Q I rv (.inr ⟨_, rfl, q _ _ _ (.same sf (.int _))⟩)
  · cases e
theorem c_str : CallR X (.type "str") (rC X.K X.mg bStr) := by
  rintro pins s σ H vs us Q I rv ⟨F, ds, r, sf, hs, e, q⟩
  unfold bStr at e
  split at e
  · obtain ⟨z, e⟩ := okB e
    cases e
    obtain ⟨v, rfl, h⟩ := hs.one
    cases h.int_
    exact call_str_int pins s σ H _ us Q I rv ⟨_, rfl, of_decide_eq_true z, q _ _ _ (.same sf (.str _))⟩
  · cases e
theorem c_list (hc : X.calm = true) : CallR X (.type "list") (rC X.K X.mg bList) := by
  rintro pins s σ H vs us Q I rv ⟨F, ds, r, sf, hs, e, q⟩
  unfold bList at e
  split at e
  · cases e
    obtain ⟨v, rfl, h⟩ := hs.one
    obtain ⟨a, ws, rfl, k, z, rr⟩ := h.lst_ sf
    exact call_list_of pins s σ H _ us Q I rv ⟨a, ws, rfl, .inl k.sq, fun l hl => q _ _ _ (.own sf hl (.lst z rr))⟩
  · cases e
    obtain ⟨v, rfl, h⟩ := hs.one
    obtain ⟨a, ws, rfl, k, z, rr⟩ := h.tup_
    exact call_list_of pins s σ H _ us Q I rv ⟨a, ws, rfl, .inr (same_t sf k.sq), fun l hl => q _ _ _ (.own sf hl (.lst z rr))⟩
  · obtain ⟨z, e⟩ := okB e
    cases e
    obtain ⟨z1, z2⟩ := of_decide_eq_true z
    obtain ⟨v, rfl, h⟩ := hs.one
    obtain ⟨a, rfl, k⟩ := h.rng_
    refine cr_listRng hc pins s σ H _ us Q I rv ⟨a, _, _, _, rfl, sf _ _ k, rfl, z1, z2, fun l hl => q _ _ _ (.own sf hl (.lst ?_ (rngs_reps _ _)))⟩
    rw [List.length_map, List.length_range']
    exact Nat.le_trans z2 (by decide)
  · cases e
theorem c_tuple : CallR X (.type "tuple") (rC X.K X.mg bTuple) := by
  rintro pins s σ H vs us Q I rv ⟨F, ds, r, sf, hs, e, q⟩
  unfold bTuple at e
  split at e
  · cases e
    obtain ⟨v, rfl, h⟩ := hs.one
    obtain ⟨a, ws, rfl, k, z, rr⟩ := h.lst_ sf
    exact call_tuple_of pins s σ H _ us Q I rv ⟨a, ws, rfl, .inl ⟨k.sq, fun l hl => q _ _ _ (.tup sf hl z rr)⟩⟩
  · cases e
    obtain ⟨v, rfl, h⟩ := hs.one
    obtain ⟨a, ws, rfl, k, z, rr⟩ := h.tup_
    exact call_tuple_of pins s σ H _ us Q I rv ⟨a, ws, rfl, .inr ⟨same_t sf k.sq, q _ _ _ (.same sf (.tup k z rr))⟩⟩
  · cases e
theorem c_divmod : CallR X (.builtin "divmod") (rC X.K X.mg bDivmod) := by
  rintro pins s σ H vs us Q I rv ⟨F, ds, r, sf, hs, e, q⟩
  unfold bDivmod at e
  split at e
  · obtain ⟨z, e⟩ := okB e
    cases e
    obtain ⟨v, w, rfl, h1, h2⟩ := hs.two
    cases h1.int_
    cases h2.int_
    have z := of_decide_eq_true z
    exact call_divmod pins s σ H _ us Q I rv ⟨_, _, rfl, z, fun p hp => q _ _ _ (.tup sf hp (by show 2 ≤ sizeLine; decide) (.cons (.int _) (.cons (.int _) .nil)))⟩
  · cases e
theorem c_gcd : CallR X (.builtin "math.gcd") (rC X.K X.mg bGcd) := by
  rintro pins s σ H vs us Q I rv ⟨F, ds, r, sf, hs, e, q⟩
  unfold bGcd at e
  split at e
  · cases e
    obtain ⟨v, w, rfl, h1, h2⟩ := hs.two
    cases h1.int_
    cases h2.int_
    exact cr_gcd pins s σ H _ us Q I rv ⟨_, _, rfl, q _ _ _ (.same sf (.int _))⟩
  · cases e
theorem c_range : CallR X (.type "range") (rC X.K X.mg bRange) := by
  rintro pins s σ H vs us Q I rv ⟨F, ds, r, sf, hs, e, q⟩
  unfold bRange at e
  split at e
  · cases e
    obtain ⟨v, w, rfl, h1, h2⟩ := hs.two
    cases h1.int_
    cases h2.int_
    exact G0.cr_range2 pins s σ H _ us Q I rv ⟨_, _, rfl, fun p hp => q _ _ _ (.put sf hp (.rng upd_same))⟩
  · cases e
    obtain ⟨v, rfl, h1⟩ := hs.one
    cases h1.int_
    exact cr_range1 pins s σ H _ us Q I rv ⟨_, rfl, fun p hp => q _ _ _ (.put sf hp (.rng upd_same))⟩
  · cases e
theorem c_repr (gd : X.A.guards = some []) (hu : X.A.units + 64 < cLine) : CallR X (.builtin "repr") (rC X.K X.mg bRepr) := by
  rintro pins s σ H vs us Q I rv ⟨F, ds, r, sf, hs, e, q⟩
  unfold bRepr at e
  split at e
  · obtain ⟨z, e⟩ := okB e
    cases e
    obtain ⟨v, rfl, h⟩ := hs.one
    unfold okR at z
    rw [Bool.and_eq_true, Bool.and_eq_true, Bool.and_eq_true, decide_eq_true_eq, decide_eq_true_eq, Bool.not_eq_true'] at z
    obtain ⟨⟨⟨z1, z2⟩, z3⟩, z4⟩ := z
    have dp := (h.rep sf).dp z2
    obtain ⟨u, rfl, ru⟩ := vals1 rv
    obtain ⟨as, rd⟩ := Dp.reads I _ _ _ dp ru
    have fin : ∀ (h2 : Heap) (u2 : Tok) (tk : Nat), (∀ b o, s.heap.get? b = some o → h2.get? b = some o) → EP X pins σ Q (.str (py _).shown u2) { s with heap := h2, toks := tk } := fun h2 u2 tk keep => ⟨.str _, H, I.kept keep, ⟨_, rfl⟩, q _ _ _ (.same sf (.str _))⟩
    generalize py _ = dd at *
    cases dp with
    | non =>
      cases ru
      exact PySem.P.repr_of_none (fin s.heap _ _ fun _ _ e => e)
    | bl b =>
      cases ru
      exact PySem.P.repr_of_bool (fin s.heap _ _ fun _ _ e => e)
    | int i =>
      obtain ⟨t, rfl⟩ := ru
      exact PySem.P.repr_of_int (by simpa [PyData.showable] using z1) (fin s.heap _ _ fun _ _ e => e)
    | str x =>
      obtain ⟨t, rfl⟩ := ru
      exact PySem.P.repr_of_str (fin s.heap _ _ fun _ _ e => e) z4
    | lst _ _ =>
      cases ru
      exact repr_of_reads' rd z1 (fun e => by rw [z2] at e; cases e) gd (by omega) (fun _ _ e => e) fin z4
    | tup _ _ =>
      cases ru
      exact repr_of_reads' rd z1 (fun e => by rw [z2] at e; cases e) gd (by omega) (fun _ _ e => e) fin z4
  · cases e
end
end VE

namespace VE
open PySem PySem.Spec PyProof.Rows L2 G0
/-! ### sorted -/
theorem Reps.vals_of {K : PySem.W.Frag} {mg : Mg} {F : Hp} : ∀ {out : List Value} {ds : List D}, PySem.W.EachIs (fun u d => ∃ v, RelV v u ∧ Rep K mg F v d) out ds → ∃ vs, Vals vs out ∧ Reps K mg F vs ds
  | _, _, .nil => ⟨[], .nil, .nil⟩
  | _, _, .cons ⟨v, r, h⟩ t => by
    obtain ⟨vs, q1, q2⟩ := Reps.vals_of t
    exact ⟨v :: vs, .cons r q1, .cons h q2⟩
theorem Reps.each {K : PySem.W.Frag} {mg : Mg} {F : Hp} : ∀ {vs : List V} {us : List Value} {ds : List D}, Reps K mg F vs ds → Vals vs us → PySem.W.EachIs (fun u d => ∃ v, RelV v u ∧ Rep K mg F v d) us ds
  | _, _, _, .nil, .nil => .nil
  | _, _, _, .cons h t, .cons r q => .cons ⟨_, r, h⟩ (Reps.each t q)
theorem Reps.eachRead {X : Cx} {pins : List (Addr × Obj)} {σ : L2.St} {H F : Hp} {s : Shared} (I : Inv X pins σ H s) (sf : Same F H) : ∀ {vs : List V} {us : List Value} {ds : List D}, Reps X.K X.mg F vs ds → Vals vs us → (∀ d ∈ ds, (py d).hasDict = false) → PySem.W.EachIs (fun u d => ∃ as, Reads s.heap u (py d) as) us ds
  | _, _, _, .nil, .nil, _ => .nil
  | _, _, _, .cons h t, .cons r q, n => .cons (Dp.reads I _ _ _ ((h.same sf).dp (n _ List.mem_cons_self)) r) (Reps.eachRead I sf t q fun d hd => n d (List.mem_cons_of_mem _ hd))
theorem isTup1_ {d : PyData} (h : isTup1 d = true) : ∃ x r, d = .tuple (x :: r) := by
  cases d with
  | tuple xs => cases xs with
    | nil => cases h
    | cons x r => exact ⟨x, r, rfl⟩
  | _ => cases h
theorem notTup_ {d : PyData} (h : notTup d = true) : d ≠ .none ∧ ∀ xs, d ≠ .tuple xs := by
  cases d with
  | tuple xs => cases h
  | none => cases h
  | _ => exact ⟨(by intro z; cases z), by intro _ z; cases z⟩
theorem c_sorted {X : Cx} (hu : X.A.units + 80 < cLine) : CallR X (.builtin "sorted") (rC X.K X.mg bSorted) := by
  rintro pins s σ H vs us Q I rv ⟨F, ds, r, sf, hs, e, q⟩
  unfold bSorted at e
  split at e
  · rename_i xs
    obtain ⟨z, e⟩ := okB e
    rw [msort_eq] at e
    cases e
    rw [Bool.and_eq_true, Bool.and_eq_true, Bool.or_eq_true, List.all_eq_true, List.all_eq_true, List.all_eq_true, List.all_eq_true] at z
    obtain ⟨⟨z1, z2⟩, z3⟩ := z
    obtain ⟨v, rfl, h⟩ := hs.one
    obtain ⟨a, ws, rfl, k, zl, rr⟩ := h.lst_ sf
    obtain ⟨its, rw, hl, hz⟩ := I.list k.sq
    rw [Vals.ref1 rv]
    have d3 : ∀ d ∈ xs, (py d).canLay0 = true ∧ (py d).depth ≤ 16 := fun d hd => of_decide_eq_true (z3 d hd)
    refine PySem.W.sorted_data (vs := its) (bs := xs) (enc := py) (R := fun u d => ∃ v, RelV v u ∧ Rep X.K X.mg F v d) hl.isList (rr.each rw) (rr.eachRead I sf rw fun d hd => PyData.hasDict_of_canLay _ (d3 d hd).1) ?_ ?_ (by rw [← rr.length]; exact zl) (fun d hd => by have := (d3 d hd).2; omega) fun out ho eo => ?_
    · intro d hd d' hd'
      obtain ⟨b, hb, rfl⟩ := List.mem_map.mp hd
      obtain ⟨b', hb', rfl⟩ := List.mem_map.mp hd'
      exact List.all_eq_true.mp (z1 b hb) b' hb'
    · rcases z2 with z2 | z2
      · exact .inl fun d hd => by
          obtain ⟨b, hb, rfl⟩ := List.mem_map.mp hd
          exact isTup1_ (z2 b hb)
      · exact .inr fun d hd => by
          obtain ⟨b, hb, rfl⟩ := List.mem_map.mp hd
          exact notTup_ (z2 b hb)
    · obtain ⟨vs', q1, q2⟩ := Reps.vals_of eo
      obtain ⟨ep, he'⟩ := PyProof.Rows.sortedAll_at s.heap its out.toArray
      have hlen : vs'.length ≤ sizeLine := by rw [q1.length, ho, ← rr.length]; exact zl
      exact ⟨.ref _, upd H (s.heap.objs.size + 1) (.lst vs'), I.laid (t' := s.toks) (fun _ _ => PyProof.Rows.sortedAll_old) (Nat.le_succ _) ⟨hlen, out, ep, q1, he'⟩, rfl, q _ _ _ (.own sf (I.hok.fresh (Nat.le_succ _)) (.lst hlen q2))⟩
  · cases e

/-! ### subscripts, slices -/
def opIx : D → D → Option RV
  | .lst xs, .int i => (atI xs i).map .val
  | .tup xs, .int i => (atI xs i).map .val
  | .str z, .int i => if szOk z.length then (atI z.cps.toList i).map fun c => .val (.str ⟨#[c]⟩) else none
  | _, _ => none
theorem opt_map' {α β : Type} {o : Option α} {f : α → β} {b : β} (h : o.map f = some b) : ∃ a, o = some a ∧ f a = b := by
  cases o with
  | none => cases h
  | some a => exact ⟨a, rfl, Option.some.inj h⟩
theorem Reps.atI {K : PySem.W.Frag} {mg : Mg} {F : Hp} {vs : List V} {ds : List D} {i : Int} {d : D} (r : Reps K mg F vs ds) (h : L2.atI ds i = some d) : ∃ v, L2.atI vs i = some v ∧ Rep K mg F v d := by
  unfold L2.atI at h ⊢
  rw [r.length]
  cases e : ixN ds.length i with
  | none => rw [e] at h; cases h
  | some j =>
    rw [e] at h
    exact r.getD h
section
variable {X : Cx}
theorem o_ix : IxR X (rU X.K X.mg opIx) := by
  rintro value slice pins s σ H x y v u Q I rx ry ⟨F, d1, d2, r, sf, h1, h2, e, q⟩ hs
  unfold opIx at e
  split at e
  · obtain ⟨d, e1, rfl⟩ := opt_map' e
    cases h2.int_
    obtain ⟨a, vs, rfl, k1, z1, r1⟩ := h1.lst_ sf
    obtain ⟨w, e2, rw⟩ := r1.atI e1
    exact ix_list value slice pins s σ H _ _ v u Q I rx ry ⟨a, vs, _, w, rfl, rfl, k1.sq, e2, q _ _ _ (.same sf rw)⟩ hs
  · obtain ⟨d, e1, rfl⟩ := opt_map' e
    cases h2.int_
    obtain ⟨a, vs, rfl, k1, z1, r1⟩ := h1.tup_
    obtain ⟨w, e2, rw⟩ := r1.atI e1
    exact ix_tup value slice pins s σ H _ _ v u Q I rx ry ⟨a, vs, _, w, rfl, rfl, same_t sf k1.sq, e2, q _ _ _ (.same sf rw)⟩ hs
  · obtain ⟨z, e⟩ := okB e
    obtain ⟨c, e1, rfl⟩ := opt_map' e
    cases h1.str_
    cases h2.int_
    exact ix_str value slice pins s σ H _ _ v u Q I rx ry ⟨_, _, c, rfl, rfl, of_decide_eq_true z, e1, q _ _ _ (.same sf (.str _))⟩ hs
  · cases e
theorem ve_ix {a b : Expr} {pos : Pos} {f g : M RV} (ha : VE X a f) (hb : VE X b g) (hs : PlainIx b := by exact fun _ _ => rfl) : VE X (.Subscript a b pos) (mOp opIx f g) := by
  refine ⟨fun W tk => (pe_ix o_ix (ha.run W tk) (hb.run W tk) hs).imp fun σ H Q ⟨B, F, ρ, sr, h⟩ => ?_⟩
  refine ⟨B, F, ρ, sr, h.bind.imp fun r ρ1 h v H1 F1 sr1 s1 rv => ?_⟩
  obtain ⟨F2, sr2, s2, rv2⟩ := rv.hold sr1
  refine ⟨B, F2, ρ1, sr2, (h.mono (s1.trans s2)).bind.imp fun r2 ρ2 h v2 H3 F3 sr3 s3 rw2 => ?_⟩
  unfold fin2 at h
  cases q1 : cont (hold r) ρ2 with
  | none => rw [q1] at h; exact h.elim
  | some d1 =>
    cases q2 : cont r2 ρ2 with
    | none => rw [q1, q2] at h; exact h.elim
    | some d2 =>
      rw [q1, q2] at h
      dsimp only at h
      cases q3 : opIx d1 d2 with
      | none => rw [q3] at h; exact h.elim
      | some r3 =>
        rw [q3] at h
        refine ⟨F3, d1, d2, r3, sr3.same, (rv2.same s3).cont sr3 q1, rw2.cont sr3 q2, q3, fun w H' F' n => ?_⟩
        obtain ⟨sr4, rv4⟩ := n.sr sr3
        exact h w H' F' sr4 (((s1.trans s2).trans s3).trans n.sF) rv4
end
/-- a slice's ends -/
def cutD (xs : List D) (lo hi : Option Int) : List D := (xs.drop (HT.sIx xs.length 0 lo)).take (HT.sIx xs.length xs.length hi - HT.sIx xs.length 0 lo)
def opSl : D → Option Int → Option Int → Option RV
  | .lst xs, lo, hi => some (.own (.lst (cutD xs lo hi)))
  | .tup xs, lo, hi => some (.val (.tup (cutD xs lo hi)))
  | _, _, _ => none
def mNo : M (Option Int) := M.ret none
def finO (r : RV) : M (Option Int) := fun ρ => match cont r ρ with
  | some (.int i) => .ok (some i) ρ
  | _ => .bad
def mSome (f : M RV) : M (Option Int) := M.bind f finO
def fin3 (r : RV) (lo hi : Option Int) : M RV := fun ρ => match cont (hold r) ρ with
  | some d => (match opSl d lo hi with | some r => .ok r ρ | none => .bad)
  | none => .bad
def mSl (f : M RV) (l h : M (Option Int)) : M RV := M.bind f fun r => M.bind l fun lo => M.bind h fun hi => fin3 r lo hi
def rSlU (K : PySem.W.Frag) (mg : Mg) : V → Option Int → Option Int → Hp → VK → Prop := fun x lo hi H Q => ∃ F d r, Same F H ∧ RepT K mg F H x d ∧ opSl d lo hi = some r ∧ ∀ v H' F', NewG K mg F H F' H' v r → Q v H'
def tVO (K : PySem.W.Frag) (mg : Mg) (W : WX) (f : M (Option Int)) : TO := fun σ H Q => ∃ B F ρ, SR K mg B F σ H ρ ∧ outcome K mg W B F σ (f ρ) fun o ρ' => ∀ H' F', SR K mg B F' σ H' ρ' → Same F F' → Q o H'
structure VO (X : Cx) (e : Option Expr) (f : M (Option Int)) : Prop where
  run : ∀ W, Takes X W → PO X e (tVO X.K X.mg W f)
theorem _root_.L2.PO.imp {X : Cx} {e : Option Expr} {t t' : TO} (h : PO X e t) (i : ∀ σ H Q, t' σ H Q → t σ H Q) : PO X e t' := ⟨fun pins s σ H Q I q => h.run pins s σ H Q I (i σ H Q q)⟩
section
variable {X : Cx} {e : Expr} {f : M RV}
theorem vo_none : VO X none mNo := ⟨fun W tk => po_none.imp fun σ H Q ⟨B, F, ρ, sr, h⟩ => h H F sr (Same.refl _)⟩
theorem vo_some (h : VE X e f) : VO X (some e) (mSome f) := by
  refine ⟨fun W tk => (po_some (h.run W tk)).imp fun σ H Q ⟨B, F, ρ, sr, h⟩ => ?_⟩
  refine ⟨B, F, ρ, sr, h.bind.imp fun r ρ1 h v H1 F1 sr1 s1 rv => ?_⟩
  unfold finO at h
  split at h
  · rename_i i q
    cases (rv.cont sr1 q).int_
    exact ⟨i, rfl, h H1 F1 sr1 s1⟩
  · exact h.elim
theorem Reps.cut {K : PySem.W.Frag} {mg : Mg} {F : Hp} {vs : List V} {ds : List D} (r : Reps K mg F vs ds) (lo hi : Option Int) : Reps K mg F (cutV vs lo hi) (cutD ds lo hi) := by
  unfold cutV cutD
  rw [r.length]
  exact (r.drop _).take _
theorem o_sl : SlR X (rSlU X.K X.mg) := by
  rintro pins s σ H x v vl vu lo hi sl Q I rx hs pl pu ⟨F, d, r, sf, h, e, q⟩
  unfold opSl at e
  split at e
  · cases e
    obtain ⟨a, vs, rfl, k1, z1, r1⟩ := h.lst_ sf
    exact sl_list pins s σ H _ v vl vu lo hi sl Q I rx hs pl pu ⟨a, vs, rfl, k1.sq, fun p hp => q _ _ _ (.own sf hp (.lst (Nat.le_trans (cutV_length _ _ _) z1) (r1.cut lo hi)))⟩
  · cases e
    obtain ⟨a, vs, rfl, k1, z1, r1⟩ := h.tup_
    refine sl_tupA pins s σ H _ v vl vu lo hi sl Q I rx hs pl pu ⟨a, vs, rfl, same_t sf k1.sq, fun w => ?_, fun _ p hp => q _ _ _ (.tup sf hp (Nat.le_trans (cutV_length _ _ _) z1) (r1.cut lo hi))⟩
    refine q _ _ _ (.same sf (.tup k1 z1 ?_))
    have e2 : cutV vs lo hi = vs := by
      unfold cutV
      rw [w.1, w.2, List.drop_zero, Nat.sub_zero, List.take_length]
    have r2 := r1.cut lo hi
    rw [e2] at r2
    exact r2
  · cases e
theorem ve_slice {lo hi : Option Expr} {l h : M (Option Int)} {pos p2 : Pos} (he : VE X e f) (hl : VO X lo l) (hu : VO X hi h) : VE X (.Subscript e (.Slice lo hi none p2) pos) (mSl f l h) := by
  refine ⟨fun W tk => (pe_slice o_sl (he.run W tk) (hl.run W tk) (hu.run W tk)).imp fun σ H Q ⟨B, F, ρ, sr, h⟩ => ?_⟩
  refine ⟨B, F, ρ, sr, h.bind.imp fun r ρ1 h v H1 F1 sr1 s1 rv => ?_⟩
  obtain ⟨F2, sr2, s2, rv2⟩ := rv.hold sr1
  refine ⟨B, F2, ρ1, sr2, (h.mono (s1.trans s2)).bind.imp fun lo ρ2 h H3 F3 sr3 s3 => ?_⟩
  refine ⟨B, F3, ρ2, sr3, (h.mono s3).bind.imp fun hi ρ3 h H4 F4 sr4 s4 => ?_⟩
  unfold fin3 at h
  cases q1 : cont (hold r) ρ3 with
  | none => rw [q1] at h; exact h.elim
  | some d1 =>
    rw [q1] at h
    dsimp only at h
    cases q3 : opSl d1 lo hi with
    | none => rw [q3] at h; exact h.elim
    | some r3 =>
      rw [q3] at h
      refine ⟨F4, d1, r3, sr4.same, ((rv2.same s3).same s4).cont sr4 q1, q3, fun w H' F' n => ?_⟩
      obtain ⟨sr5, rv5⟩ := n.sr sr4
      exact h w H' F' sr5 ((((s1.trans s2).trans s3).trans s4).trans n.sF) rv5
end
/-! ### displays: what they hold stays -/
def set1 (r : RV) : M D := match r with
  | .val d => M.ret d
  | .own o => M.ret o.d
  | .pl i => fun ρ => match ρ[i]? with
    | some (some (.val d)) => .ok d ρ
    | some (some (.own o)) => .ok o.d (ρ.set i (some (.val o.d)))
    | _ => .bad
def settle : List RV → M (List D)
  | [] => M.ret []
  | r :: rs => M.bind (set1 r) fun d => M.bind (settle rs) fun ds => M.ret (d :: ds)
def finL (k : List D → Option RV) (ds : List D) : M RV := fun ρ => match k ds with
  | some r => .ok r ρ
  | none => .bad
def mLst (f : M (List RV)) : M RV := M.bind f fun rs => M.bind (settle rs) fun ds => fun ρ => if szOk ds.length then .ok (.own (.lst ds)) ρ else .bad
def mTup (f : M (List RV)) : M RV := M.bind f fun rs => M.bind (settle rs) fun ds => fun ρ => if szOk ds.length then .ok (.val (.tup ds)) ρ else .bad
theorem set1_run {K : PySem.W.Frag} {mg : Mg} {W : WX} {B : Bs} {F0 F H : Hp} {σ : L2.St} {ρ : Rho} {k : D → Rho → Prop} {r : RV} {v : V} (sr : SR K mg B F σ H ρ) (rv : RVR K mg B F H σ ρ v r) (h : outcome K mg W B F0 σ (set1 r ρ) k) :
    ∃ d F' ρ', SR K mg B F' σ H ρ' ∧ Same F F' ∧ Rep K mg F' v d ∧ k d ρ' := by
  cases r with
  | val d => exact ⟨d, F, ρ, sr, Same.refl _, rv, h⟩
  | own o =>
    obtain ⟨p, u, rfl, h1, h2, h3, h4, h5⟩ := rv
    exact ⟨o.d, _, ρ, sr.frz h1 h2 h3 h5, same_new h2, RepO.rep h4 (same_new h2) upd_same, h⟩
  | pl i =>
    obtain ⟨r1, s, q⟩ := rv
    unfold set1 at h
    dsimp only at h
    rw [q] at h
    cases s with
    | val d =>
      obtain ⟨v', e1, hs⟩ := sr.slot i _ q
      rw [r1] at e1
      cases e1
      exact ⟨d, F, ρ, sr, Same.refl _, hs, h⟩
    | own o =>
      obtain ⟨F', sr', s', rep⟩ := sr.settle q r1
      exact ⟨o.d, F', _, sr', s', rep, h⟩
    | par o => exact h.elim
theorem settle_run {K : PySem.W.Frag} {mg : Mg} {W : WX} {B : Bs} {F0 H : Hp} {σ : L2.St} {k : List D → Rho → Prop} : ∀ {rs : List RV} {vs : List V} {F : Hp} {ρ : Rho}, SR K mg B F σ H ρ → RVs K mg F σ vs rs → Same F0 F → outcome K mg W B F0 σ (settle rs ρ) k →
    ∃ ds F' ρ', SR K mg B F' σ H ρ' ∧ Same F F' ∧ Reps K mg F' vs ds ∧ k ds ρ'
  | [], _, F, ρ, sr, rv, s0, h => by
    cases rv
    exact ⟨[], F, ρ, sr, Same.refl _, .nil, h⟩
  | r :: rs, _, F, ρ, sr, rv, s0, h => by
    cases rv with
    | cons r1 rv =>
      rename_i v vs
      have full : RVR K mg B F H σ ρ v r ∨ ∃ i, r = .pl i ∧ ∀ s, ρ[i]? ≠ some (some s) := by
        cases r with
        | val d => exact .inl r1
        | own o => exact r1.elim
        | pl i =>
          by_cases q : ∃ s, ρ[i]? = some (some s)
          · exact .inl ⟨r1, q⟩
          · exact .inr ⟨i, rfl, fun s z => q ⟨s, z⟩⟩
      have h := h.bind
      rcases full with full | ⟨i, rfl, no⟩
      · obtain ⟨d, F1, ρ1, sr1, s1, rep, h⟩ := set1_run sr full h
        obtain ⟨ds, F2, ρ2, sr2, s2, reps, h⟩ := settle_run sr1 (rv.same s1) (s0.trans s1) h.bind
        exact ⟨d :: ds, F2, ρ2, sr2, s1.trans s2, .cons (rep.same s2) reps, h⟩
      · exfalso
        unfold set1 at h
        dsimp only at h
        split at h
        · rename_i q; exact no _ q
        · rename_i q; exact no _ q
        · exact h
section
variable {X : Cx} {es : List Expr} {fs : M (List RV)} {pos : Pos}
theorem ve_lst (h : VA X es fs) : VE X (.List es pos) (mLst fs) := by
  refine ⟨fun W tk => (pe_lst (h.run W tk)).imp fun σ H Q ⟨B, F, ρ, sr, h⟩ => ?_⟩
  refine ⟨B, F, ρ, sr, h.bind.imp fun rs ρ1 h vs H1 F1 sr1 s1 rvs => ?_⟩
  obtain ⟨ds, F2, ρ2, sr2, s2, reps, h⟩ := settle_run sr1 rvs s1 h.bind
  split at h
  · rename_i z
    have z : vs.length ≤ sizeLine := by rw [reps.length]; exact of_decide_eq_true z
    refine ⟨z, fun p hp => ?_⟩
    have n : NewG X.K X.mg F2 H1 F2 (upd H1 p (.lst vs)) (.ref p) (.own (.lst ds)) := .own sr2.same hp (.lst z reps)
    obtain ⟨sr3, rv3⟩ := n.sr sr2
    exact h _ _ _ sr3 (s1.trans s2) rv3
  · exact h.elim
theorem ve_tup {x1 : Nat} (h : VA X es fs) : VE X (.Tuple es x1 pos) (mTup fs) := by
  refine ⟨fun W tk => (pe_tup (h.run W tk)).imp fun σ H Q ⟨B, F, ρ, sr, h⟩ => ?_⟩
  refine ⟨B, F, ρ, sr, h.bind.imp fun rs ρ1 h vs H1 F1 sr1 s1 rvs => ?_⟩
  obtain ⟨ds, F2, ρ2, sr2, s2, reps, h⟩ := settle_run sr1 rvs s1 h.bind
  split at h
  · rename_i z
    have z : vs.length ≤ sizeLine := by rw [reps.length]; exact of_decide_eq_true z
    refine ⟨z, fun p hp => ?_⟩
    have n : NewG X.K X.mg F2 H1 (upd F2 p (.tup vs)) (upd H1 p (.tup vs)) (.ref p) (.val (.tup ds)) := .tup sr2.same hp z reps
    obtain ⟨sr3, rv3⟩ := n.sr sr2
    exact h _ _ _ sr3 ((s1.trans s2).trans n.sF) rv3
  · exact h.elim
end
/-! ### tests -/
def truth : D → Option Bool
  | .non => some false
  | .bl b => some b
  | .int i => some (i != 0)
  | .str y => if szOk y.length then some ((y.length : Int) != 0) else none
  | .lst xs => some (!xs.isEmpty)
  | .tup xs => some (!xs.isEmpty)
  | .dK kvs => some (!kvs.isEmpty)
  | _ => none
def finT (r : RV) : M Bool := fun ρ => match cont r ρ with
  | some d => (match truth d with | some b => .ok b ρ | none => .bad)
  | none => .bad
def mT (f : M RV) : M Bool := M.bind f finT
def finB (r : RV) : M Bool := fun ρ => match r with
  | .val (.bl b) => .ok b ρ
  | _ => .bad
def mB (f : M RV) : M Bool := M.bind f finB
def mNotT (f : M Bool) : M Bool := M.bind f fun b => M.ret (!b)
def mAndT (f g : M Bool) : M Bool := M.bind f fun b => if b = true then g else M.ret false
def mOrT (f g : M Bool) : M Bool := M.bind f fun b => if b = true then M.ret true else g
theorem finB_run {K : PySem.W.Frag} {mg : Mg} {W : WX} {B : Bs} {F : Hp} {σ : L2.St} {ρ : Rho} {r : RV} {k : Bool → Rho → Prop} (h : outcome K mg W B F σ (finB r ρ) k) : ∃ b, r = .val (.bl b) ∧ k b ρ := by
  unfold finB at h
  split at h
  · exact ⟨_, rfl, h⟩
  · exact h.elim
theorem isEmpty_reps {K : PySem.W.Frag} {mg : Mg} {F : Hp} {vs : List V} {ds : List D} (r : Reps K mg F vs ds) : (!ds.isEmpty) = !vs.isEmpty := by
  cases r <;> rfl
section
variable {X : Cx} {a b : Expr} {f : M RV} {pos : Pos} {g h : M Bool} {rest : List Expr}
theorem truth_v {K : PySem.W.Frag} {mg : Mg} {F H : Hp} {v : V} {d : D} {k : Bool} (s : Same F H) (r : RepT K mg F H v d) (e : truth d = some k) : TruV K v H k := by
  cases d with
  | non => cases e; cases r.non_; rfl
  | bl b => cases e; cases r.bl_; rfl
  | int b => cases e; cases r.int_; rfl
  | str y =>
    cases r.str_
    have e : (if szOk y.length = true then some ((y.length : Int) != 0) else none) = some k := e
    split at e
    · rename_i z
      cases e
      exact ⟨of_decide_eq_true z, rfl⟩
    · cases e
  | lst xs =>
    cases e
    obtain ⟨a, vs, rfl, k1, z1, r1⟩ := r.lst_ s
    exact .inl ⟨vs, k1.sq, isEmpty_reps r1⟩
  | tup xs =>
    cases e
    obtain ⟨a, vs, rfl, k1, z1, r1⟩ := r.tup_
    exact .inr (.inl ⟨vs, same_t s k1.sq, isEmpty_reps r1⟩)
  | dK kvs =>
    cases e
    cases r.rep s with
    | dK h1 h2 => exact .inr (.inr ⟨_, h1, by cases h2 <;> rfl⟩)
  | _ => cases e
/-- any expression as a test -/
theorem vt_tru (ha : VE X a f) (he : ∀ whole, isTrue a X.env whole = (do let v ← whole; standAt a.pos; holding [v] (truthy v)) := by intro _; rfl) : VT X a (mT f) := by
  refine ⟨fun W tk => (pt_truth (ha.run W tk) he).imp fun σ H Q ⟨B, F, ρ, sr, h⟩ => ?_⟩
  refine ⟨B, F, ρ, sr, h.bind.imp fun r ρ1 h v H1 F1 sr1 s1 rv => ?_⟩
  unfold finT at h
  cases q1 : cont r ρ1 with
  | none => rw [q1] at h; exact h.elim
  | some d =>
    rw [q1] at h
    dsimp only at h
    cases q2 : truth d with
    | none => rw [q2] at h; exact h.elim
    | some k =>
      rw [q2] at h
      exact ⟨k, truth_v sr1.same (rv.cont sr1 q1) q2, h H1 F1 sr1 s1⟩
/-- a comparison as a test -/
theorem vt_cmp {o : CmpOp} {op : D → D → Option RV} {g : M RV} (ho : OpR X (compareOp o) (rU X.K X.mg op)) (ha : VE X a f) (hb : VE X b g) (hm : behindInMarks o b = false) : VT X (.Compare a [o] [b] pos) (mB (mOp op f g)) := by
  refine ⟨fun W tk => (pt_cmpR ho (ha.run W tk) (hb.run W tk) hm).imp fun σ H Q ⟨B, F, ρ, sr, h⟩ => ?_⟩
  refine ⟨B, F, ρ, sr, h.bind.bind.imp fun r ρ1 h v H1 F1 sr1 s1 rv => ?_⟩
  obtain ⟨F2, sr2, s2, rv2⟩ := rv.hold sr1
  refine ⟨B, F2, ρ1, sr2, (h.mono (s1.trans s2)).bind.imp fun r2 ρ2 h v2 H3 F3 sr3 s3 rw2 => ?_⟩
  unfold fin2 at h
  cases q1 : cont (hold r) ρ2 with
  | none => rw [q1] at h; exact h.elim
  | some d1 =>
    cases q2 : cont r2 ρ2 with
    | none => rw [q1, q2] at h; exact h.elim
    | some d2 =>
      rw [q1, q2] at h
      dsimp only at h
      cases q3 : op d1 d2 with
      | none => rw [q3] at h; exact h.elim
      | some r3 =>
        rw [q3] at h
        obtain ⟨k, e3, h⟩ := finB_run h
        subst e3
        refine ⟨F3, d1, d2, _, sr3.same, (rv2.same s3).cont sr3 q1, rw2.cont sr3 q2, q3, fun w H' F' n => ?_⟩
        obtain ⟨sr4, rv4⟩ := n.sr sr3
        cases (show Rep X.K X.mg F' w (.bl k) from rv4)
        exact ⟨k, rfl, h H' F' sr4 (((s1.trans s2).trans s3).trans n.sF)⟩
theorem vt_not (ha : VT X a g) : VT X (.UnaryOp .Not a pos) (mNotT g) := by
  refine ⟨fun W tk => (pt_not (ha.run W tk)).imp fun σ H Q ⟨B, F, ρ, sr, h⟩ => ?_⟩
  exact ⟨B, F, ρ, sr, h.bind.imp fun b ρ1 h H1 F1 sr1 s1 => h H1 F1 sr1 s1⟩
theorem VW.t (h : VW X a g) : VT X a g := ⟨fun W tk => (h.run W tk).pt⟩
theorem vw_and1 (ha : VT X a g) : VW X (.BoolOp .And [a] pos) g := ⟨fun W tk => pw_and1 (ha.run W tk)⟩
theorem vw_or1 (ha : VT X a g) : VW X (.BoolOp .Or [a] pos) g := ⟨fun W tk => pw_or1 (ha.run W tk)⟩
theorem vw_and (ha : VT X a g) (hb : VW X (.BoolOp .And (b :: rest) pos) h) : VW X (.BoolOp .And (a :: b :: rest) pos) (mAndT g h) := by
  refine ⟨fun W tk => (pw_and (ha.run W tk) (hb.run W tk)).imp fun σ H Q ⟨B, F, ρ, sr, h⟩ => ?_⟩
  refine ⟨B, F, ρ, sr, h.bind.imp fun b ρ1 h H1 F1 sr1 s1 => ?_⟩
  cases b with
  | true =>
    refine iteT ⟨B, F1, ρ1, sr1, (h.mono s1).imp fun b ρ2 h H2 F2 sr2 s2 => h H2 F2 sr2 (s1.trans s2)⟩
  | false => exact iteF (h H1 F1 sr1 s1)
theorem vw_or (ha : VT X a g) (hb : VW X (.BoolOp .Or (b :: rest) pos) h) : VW X (.BoolOp .Or (a :: b :: rest) pos) (mOrT g h) := by
  refine ⟨fun W tk => (pw_or (ha.run W tk) (hb.run W tk)).imp fun σ H Q ⟨B, F, ρ, sr, h⟩ => ?_⟩
  refine ⟨B, F, ρ, sr, h.bind.imp fun b ρ1 h H1 F1 sr1 s1 => ?_⟩
  cases b with
  | false =>
    refine iteF ⟨B, F1, ρ1, sr1, (h.mono s1).imp fun b ρ2 h H2 F2 sr2 s2 => h H2 F2 sr2 (s1.trans s2)⟩
  | true => exact iteT (h H1 F1 sr1 s1)
end
/-! ### and, or, not, if as values -/
def mNotV (f : M RV) : M RV := M.bind (mB f) fun b => M.ret (.val (.bl (!b)))
def mAndV (f g : M RV) : M RV := M.bind (mB f) fun b => if b = true then g else M.ret (.val (.bl false))
def mOrV (f g : M RV) : M RV := M.bind (mB f) fun b => if b = true then M.ret (.val (.bl true)) else g
def mIf (c : M Bool) (f g : M RV) : M RV := M.bind c fun b => if b = true then f else g
section
variable {X : Cx} {a b c : Expr} {f g : M RV} {pos : Pos} {h : M Bool} {rest : List Expr}
/-- a truth of a value that is one -/
theorem mB_run {K : PySem.W.Frag} {mg : Mg} {W : WX} {B : Bs} {F : Hp} {σ : L2.St} {ρ : Rho} {k : Bool → Rho → Prop} (h : outcome K mg W B F σ (mB f ρ) k) :
    outcome K mg W B F σ (f ρ) fun r ρ' => ∃ b, r = .val (.bl b) ∧ k b ρ' := by
  refine h.bind.imp fun r ρ1 h => ?_
  unfold finB at h
  split at h
  · exact ⟨_, rfl, h⟩
  · exact h.elim
theorem ve_not (ha : VE X a f) : VE X (.UnaryOp .Not a pos) (mNotV f) := by
  refine ⟨fun W tk => (pe_not (ha.run W tk)).imp fun σ H Q ⟨B, F, ρ, sr, h⟩ => ?_⟩
  refine ⟨B, F, ρ, sr, (mB_run h.bind).imp fun r ρ1 ⟨b, e, h⟩ v H1 F1 sr1 s1 rv => ?_⟩
  subst e
  cases (show Rep X.K X.mg F1 v (.bl b) from rv)
  exact ⟨b, rfl, h _ H1 F1 sr1 s1 (.bl _)⟩
theorem ve_one {op : BoolOp} (ha : VE X a f) : VE X (.BoolOp op [a] pos) f := ⟨fun W tk => pe_one (ha.run W tk)⟩
theorem ve_and (ha : VE X a f) (hb : VE X (.BoolOp .And (b :: rest) pos) g) : VE X (.BoolOp .And (a :: b :: rest) pos) (mAndV f g) := by
  refine ⟨fun W tk => (pe_and (ha.run W tk) (hb.run W tk)).imp fun σ H Q ⟨B, F, ρ, sr, h⟩ => ?_⟩
  refine ⟨B, F, ρ, sr, (mB_run h.bind).imp fun r ρ1 ⟨b, e, h⟩ v H1 F1 sr1 s1 rv => ?_⟩
  subst e
  cases (show Rep X.K X.mg F1 v (.bl b) from rv)
  refine ⟨b, rfl, ?_⟩
  cases b with
  | true => exact iteT ⟨B, F1, ρ1, sr1, (h.mono s1).imp fun r ρ2 h v H2 F2 sr2 s2 rv => h v H2 F2 sr2 (s1.trans s2) rv⟩
  | false => exact iteF (h _ H1 F1 sr1 s1 (.bl _))
theorem ve_or (ha : VE X a f) (hb : VE X (.BoolOp .Or (b :: rest) pos) g) : VE X (.BoolOp .Or (a :: b :: rest) pos) (mOrV f g) := by
  refine ⟨fun W tk => (pe_or (ha.run W tk) (hb.run W tk)).imp fun σ H Q ⟨B, F, ρ, sr, h⟩ => ?_⟩
  refine ⟨B, F, ρ, sr, (mB_run h.bind).imp fun r ρ1 ⟨b, e, h⟩ v H1 F1 sr1 s1 rv => ?_⟩
  subst e
  cases (show Rep X.K X.mg F1 v (.bl b) from rv)
  refine ⟨b, rfl, ?_⟩
  cases b with
  | false => exact iteF ⟨B, F1, ρ1, sr1, (h.mono s1).imp fun r ρ2 h v H2 F2 sr2 s2 rv => h v H2 F2 sr2 (s1.trans s2) rv⟩
  | true => exact iteT (h _ H1 F1 sr1 s1 (.bl _))
theorem ve_if (hc : VT X c h) (ha : VE X a f) (hb : VE X b g) : VE X (.IfExp c a b pos) (mIf h f g) := by
  refine ⟨fun W tk => (pe_ifExp (hc.run W tk) (ha.run W tk) (hb.run W tk)).imp fun σ H Q ⟨B, F, ρ, sr, h⟩ => ?_⟩
  refine ⟨B, F, ρ, sr, h.bind.imp fun b ρ1 h H1 F1 sr1 s1 => ?_⟩
  cases b with
  | true => exact iteT ⟨B, F1, ρ1, sr1, (h.mono s1).imp fun r ρ2 h v H2 F2 sr2 s2 rv => h v H2 F2 sr2 (s1.trans s2) rv⟩
  | false => exact iteF ⟨B, F1, ρ1, sr1, (h.mono s1).imp fun r ρ2 h v H2 F2 sr2 s2 rv => h v H2 F2 sr2 (s1.trans s2) rv⟩
/-- a < b < c -/
def mChain (op op' : D → D → Option RV) (f g h : M RV) : M RV := M.bind f fun r1 => M.bind g fun r2 => M.bind (mB (fin2 op r1 (hold r2))) fun b => if b = true then M.bind h fun r3 => fin2 op' (hold r2) r3 else M.ret (.val (.bl false))
theorem hold_hold (r : RV) : hold (hold r) = hold r := by cases r <;> rfl
theorem ve_chain {c : Expr} {o o' : CmpOp} {op op' : D → D → Option RV} {h : M RV} (ho : OpR X (compareOp o) (rU X.K X.mg op)) (ho' : OpR X (compareOp o') (rU X.K X.mg op')) (ha : VE X a f) (hb : VE X b g) (hc : VE X c h)
    (hm : lastMarks [o, o'] [b, c] = false := by with_unfolding_all rfl) : VE X (.Compare a [o, o'] [b, c] pos) (mChain op op' f g h) := by
  refine ⟨fun W tk => (pe_chain ho ho' (ha.run W tk) (hb.run W tk) (hc.run W tk) hm).imp fun σ H Q ⟨B, F, ρ, sr, h⟩ => ?_⟩
  refine ⟨B, F, ρ, sr, h.bind.imp fun r ρ1 h v H1 F1 sr1 s1 rv => ?_⟩
  obtain ⟨F2, sr2, s2, rv2⟩ := rv.hold sr1
  refine ⟨B, F2, ρ1, sr2, (h.mono (s1.trans s2)).bind.imp fun r2 ρ2 h v2 H3 F3 sr3 s3 rw2 => ?_⟩
  obtain ⟨F4, sr4, s4, rv4⟩ := rw2.hold sr3
  have h := mB_run h.bind
  unfold fin2 at h
  cases q1 : cont (hold r) ρ2 with
  | none => rw [q1] at h; exact h.elim
  | some d1 =>
    cases q2 : cont (hold r2) ρ2 with
    | none => rw [q1, q2] at h; exact h.elim
    | some d2 =>
      rw [q1, q2] at h
      dsimp only at h
      cases q3 : op d1 d2 with
      | none => rw [q3] at h; exact h.elim
      | some r3 =>
        rw [q3] at h
        obtain ⟨k, rfl, h⟩ := h
        refine ⟨F4, d1, d2, _, sr4.same, ((rv2.same s3).same s4).cont sr4 q1, rv4.cont sr4 q2, q3, fun w H' F' n => ?_⟩
        obtain ⟨sr5, rv5⟩ := n.sr sr4
        cases (show Rep X.K X.mg F' w (.bl k) from rv5)
        refine ⟨k, rfl, ?_⟩
        have sall : Same F F' := (((s1.trans s2).trans s3).trans s4).trans n.sF
        cases k with
        | false => exact iteF (h _ H' F' sr5 sall (.bl _))
        | true =>
          rw [if_pos rfl] at h
          refine iteT ⟨B, F', ρ2, sr5, (h.mono ((s3.trans s4).trans n.sF)).bind.imp fun r3 ρ3 h v3 H5 F5 sr6 s6 rw3 => ?_⟩
          unfold fin2 at h
          rw [hold_hold] at h
          cases p1 : cont (hold r2) ρ3 with
          | none => rw [p1] at h; exact h.elim
          | some e1 =>
            cases p2 : cont r3 ρ3 with
            | none => rw [p1, p2] at h; exact h.elim
            | some e2 =>
              rw [p1, p2] at h
              dsimp only at h
              cases p3 : op' e1 e2 with
              | none => rw [p3] at h; exact h.elim
              | some r4 =>
                rw [p3] at h
                refine ⟨F5, e1, e2, r4, sr6.same, ((rv4.same n.sF).same s6).cont sr6 p1, rw3.cont sr6 p2, p3, fun w H' F' n => ?_⟩
                obtain ⟨sr7, rv7⟩ := n.sr sr6
                exact h w H' F' sr7 ((sall.trans s6).trans n.sF) rv7
/-- a value as a test, where it is a bool (a chain of comparisons) -/
theorem vt_val (ha : VE X a f) (he : ∀ whole, isTrue a X.env whole = (do let v ← whole; standAt a.pos; holding [v] (truthy v)) := by intro _; rfl) : VT X a (mB f) := by
  refine ⟨fun W tk => (pt_val (ha.run W tk) he).imp fun σ H Q ⟨B, F, ρ, sr, h⟩ => ?_⟩
  refine ⟨B, F, ρ, sr, (mB_run h).imp fun r ρ1 ⟨b, e, h⟩ v H1 F1 sr1 s1 rv => ?_⟩
  subst e
  cases (show Rep X.K X.mg F1 v (.bl b) from rv)
  exact ⟨b, rfl, h H1 F1 sr1 s1⟩
theorem vt_chain {c : Expr} {o o' : CmpOp} {op op' : D → D → Option RV} {h : M RV} (ho : OpR X (compareOp o) (rU X.K X.mg op)) (ho' : OpR X (compareOp o') (rU X.K X.mg op')) (ha : VE X a f) (hb : VE X b g) (hc : VE X c h)
    (hm : lastMarks [o, o'] [b, c] = false := by with_unfolding_all rfl) : VT X (.Compare a [o, o'] [b, c] pos) (mB (mChain op op' f g h)) := by
  refine ⟨fun W tk => (pt_chain ho ho' (ha.run W tk) (hb.run W tk) (hc.run W tk) hm).imp fun σ H Q ⟨B, F, ρ, sr, h⟩ => ?_⟩
  refine ⟨B, F, ρ, sr, h.bind.bind.imp fun r ρ1 h v H1 F1 sr1 s1 rv => ?_⟩
  obtain ⟨F2, sr2, s2, rv2⟩ := rv.hold sr1
  refine ⟨B, F2, ρ1, sr2, (h.mono (s1.trans s2)).bind.imp fun r2 ρ2 h v2 H3 F3 sr3 s3 rw2 => ?_⟩
  obtain ⟨F4, sr4, s4, rv4⟩ := rw2.hold sr3
  have h := mB_run h.bind
  unfold fin2 at h
  cases q1 : cont (hold r) ρ2 with
  | none => rw [q1] at h; exact h.elim
  | some d1 =>
    cases q2 : cont (hold r2) ρ2 with
    | none => rw [q1, q2] at h; exact h.elim
    | some d2 =>
      rw [q1, q2] at h
      dsimp only at h
      cases q3 : op d1 d2 with
      | none => rw [q3] at h; exact h.elim
      | some r3 =>
        rw [q3] at h
        obtain ⟨k, rfl, h⟩ := h
        refine ⟨F4, d1, d2, _, sr4.same, ((rv2.same s3).same s4).cont sr4 q1, rv4.cont sr4 q2, q3, fun w H' F' n => ?_⟩
        obtain ⟨sr5, rv5⟩ := n.sr sr4
        cases (show Rep X.K X.mg F' w (.bl k) from rv5)
        refine ⟨k, rfl, ?_⟩
        have sall : Same F F' := (((s1.trans s2).trans s3).trans s4).trans n.sF
        cases k with
        | false => exact iteF ⟨false, rfl, h H' F' sr5 sall⟩
        | true =>
          rw [if_pos rfl] at h
          refine iteT ⟨B, F', ρ2, sr5, (h.mono ((s3.trans s4).trans n.sF)).bind.imp fun r3 ρ3 h v3 H5 F5 sr6 s6 rw3 => ?_⟩
          unfold fin2 at h
          rw [hold_hold] at h
          cases p1 : cont (hold r2) ρ3 with
          | none => rw [p1] at h; exact h.elim
          | some e1 =>
            cases p2 : cont r3 ρ3 with
            | none => rw [p1, p2] at h; exact h.elim
            | some e2 =>
              rw [p1, p2] at h
              dsimp only at h
              cases p3 : op' e1 e2 with
              | none => rw [p3] at h; exact h.elim
              | some r4 =>
                rw [p3] at h
                obtain ⟨k, e4, h⟩ := finB_run h
                subst e4
                refine ⟨F5, e1, e2, _, sr6.same, ((rv4.same n.sF).same s6).cont sr6 p1, rw3.cont sr6 p2, p3, fun w H' F' n => ?_⟩
                obtain ⟨sr7, rv7⟩ := n.sr sr6
                cases (show Rep X.K X.mg F' w (.bl k) from rv7)
                exact ⟨k, rfl, h H' F' sr7 ((sall.trans s6).trans n.sF)⟩
end
end VE

namespace VE
open PySem PySem.Spec PyProof.Rows L2 G0
/-! ### slots change -/
def Slot.put : Slot → Ob → Slot
  | .own _, o => .own o
  | .par _, o => .par o
  | s, _ => s
section
variable {K : PySem.W.Frag} {mg : Mg} {W : WX} {B : Bs} {F F' H H' : Hp} {σ : L2.St} {ρ : Rho} {v : V} {r : RV} {d : D} {i : Nat}
/-- the object that slot i holds changes -/
theorem SR.mut {s : Slot} {o : Ob} (sr : SR K mg B F σ H ρ) (e : ρ[i]? = some (some s)) (hs : s = .own o ∨ s = .par o) (ev : σ[i]? = some (some v)) :
    ∃ a u, v = .ref a ∧ F a = none ∧ H a = some u ∧ RepO K mg F o u ∧ ∀ o' u', RepO K mg F o' u' → SR K mg B F σ (upd H a u') (ρ.set i (some (s.put o'))) := by
  obtain ⟨v', e1, h⟩ := sr.slot i s e
  rw [ev] at e1
  cases e1
  have all : ∃ a u, v = .ref a ∧ F a = none ∧ H a = some u ∧ RepO K mg F o u ∧ ((B.H a = none ∧ s = .own o) ∨ (B.par i = some a ∧ s = .par o)) := by
    rcases hs with rfl | rfl
    · obtain ⟨a, u, h1, h2, h3, h4, h5⟩ := h
      exact ⟨a, u, h1, h3, h4, h5, .inl ⟨h2, rfl⟩⟩
    · obtain ⟨a, u, h1, h2, h3, h4, h5⟩ := h
      exact ⟨a, u, h1, h3, h4, h5, .inr ⟨h2, rfl⟩⟩
  obtain ⟨a, u, rfl, fa, ha, ro, kd⟩ := all
  refine ⟨a, u, rfl, fa, ha, ro, fun o' u' ro' => ⟨by rw [List.length_set]; exact sr.len, fun b w eb => ?_, sr.ent, sr.away, fun b w eb np => ?_, fun j b p => ?_, sr.pinj, fun j s' ej => ?_, fun j k o1 o2 b e1 e2 f1 f2 => ?_⟩⟩
  · have : b ≠ a := by rintro rfl; rw [fa] at eb; cases eb
    rw [upd_ne this]
    exact sr.same _ _ eb
  · have : b ≠ a := by
      rintro rfl
      rcases kd with ⟨q, _⟩ | ⟨q, _⟩
      · rw [q] at eb; cases eb
      · exact np i q
    rw [upd_ne this]
    exact sr.keep _ _ eb np
  · obtain ⟨q1, q2, q3⟩ := sr.pth j b p
    refine ⟨q1, q2, ?_⟩
    by_cases z : b = a
    · rw [z, upd_same]; exact ro'.nt
    · rw [upd_ne z]; exact q3
  · rcases get_set ej with ⟨rfl, e2⟩ | ⟨ne, ejj⟩
    · cases e2
      refine ⟨_, ev, ?_⟩
      rcases kd with ⟨q, rfl⟩ | ⟨q, rfl⟩
      · exact ⟨a, u', rfl, q, fa, upd_same, ro'⟩
      · exact ⟨a, u', rfl, q, fa, upd_same, ro'⟩
    · obtain ⟨v', e1, h⟩ := sr.slot j s' ejj
      refine ⟨v', e1, ?_⟩
      cases s' with
      | val d => exact h
      | own o2 =>
        obtain ⟨b, w, rfl, q1, q2, q3, q4⟩ := h
        refine ⟨b, w, rfl, q1, q2, ?_, q4⟩
        refine upd_off ?_ q3
        rintro rfl
        rcases kd with ⟨q, rfl⟩ | ⟨q, rfl⟩
        · exact ne (sr.sep j i o2 o b ejj e e1 ev)
        · exact (sr.pth i b q).1 q1
      | par o2 =>
        obtain ⟨b, w, rfl, q1, q2, q3, q4⟩ := h
        refine ⟨b, w, rfl, q1, q2, ?_, q4⟩
        refine upd_off ?_ q3
        rintro rfl
        rcases kd with ⟨q, rfl⟩ | ⟨q, rfl⟩
        · exact (sr.pth j b q1).1 q
        · exact ne (sr.pinj j i b q1 q)
  · rcases get_set e1 with ⟨rfl, z1⟩ | ⟨n1, g1⟩
    · rcases get_set e2 with ⟨rfl, z2⟩ | ⟨n2, g2⟩
      · rfl
      · rcases kd with ⟨q, rfl⟩ | ⟨q, rfl⟩
        · exact sr.sep j k o o2 b e g2 f1 f2
        · cases z1
    · rcases get_set e2 with ⟨rfl, z2⟩ | ⟨n2, g2⟩
      · rcases kd with ⟨q, rfl⟩ | ⟨q, rfl⟩
        · exact sr.sep j k o1 o b g1 e f1 f2
        · cases z2
      · exact sr.sep j k o1 o2 b g1 g2 f1 f2
/-- a slot's knowledge is given up -/
theorem SR.drop (sr : SR K mg B F σ H ρ) (i : Nat) : SR K mg B F σ H (ρ.set i none) where
  len := by rw [List.length_set]; exact sr.len
  same := sr.same
  ent := sr.ent
  away := sr.away
  keep := sr.keep
  pth := sr.pth
  pinj := sr.pinj
  slot := fun j s e => by
    rcases get_set e with ⟨_, z⟩ | ⟨_, e⟩
    · cases z
    · exact sr.slot j s e
  sep := fun j k o o' a e1 e2 => by
    rcases get_set e1 with ⟨_, z⟩ | ⟨_, e1⟩
    · cases z
    · rcases get_set e2 with ⟨_, z⟩ | ⟨_, e2⟩
      · cases z
      · exact sr.sep j k o o' a e1 e2
theorem get_setV {σ : L2.St} {i j : Nat} {x y : Option V} (h : (σ.set i x)[j]? = some y) (ne : j ≠ i) : σ[j]? = some y := by
  rw [List.getElem?_set_ne fun z => ne z.symm] at h
  exact h
/-- slot i gets a value that stays -/
theorem SR.setVal (sr : SR K mg B F σ H ρ) (h : Rep K mg F v d) : SR K mg B F (σ.set i (some v)) H (ρ.set i (some (.val d))) where
  len := by rw [List.length_set, List.length_set]; exact sr.len
  same := sr.same
  ent := sr.ent
  away := sr.away
  keep := sr.keep
  pth := sr.pth
  pinj := sr.pinj
  slot := fun j s e => by
    have lj : j < σ.length := by
      rw [← sr.len]
      have := (List.getElem?_eq_some_iff.mp e).1
      rw [List.length_set] at this
      exact this
    rcases get_set e with ⟨rfl, z⟩ | ⟨ne, e⟩
    · cases z
      exact ⟨v, by rw [List.getElem?_set_self lj], h⟩
    · obtain ⟨v', e1, h⟩ := sr.slot j s e
      exact ⟨v', by rw [List.getElem?_set_ne fun z => ne z.symm]; exact e1, h⟩
  sep := fun j k o o' a e1 e2 f1 f2 => by
    rcases get_set e1 with ⟨_, z⟩ | ⟨n1, e1⟩
    · cases z
    · rcases get_set e2 with ⟨_, z⟩ | ⟨n2, e2⟩
      · cases z
      · exact sr.sep j k o o' a e1 e2 (get_setV f1 n1) (get_setV f2 n2)
/-- slot i gets an own object -/
theorem SR.setOwn {o : Ob} (sr : SR K mg B F σ H ρ) (h : RVR K mg B F H σ ρ v (.own o)) : SR K mg B F (σ.set i (some v)) H (ρ.set i (some (.own o))) := by
  obtain ⟨p, u, rfl, h1, h2, h3, h4, h5⟩ := h
  refine ⟨by rw [List.length_set, List.length_set]; exact sr.len, sr.same, sr.ent, sr.away, sr.keep, sr.pth, sr.pinj, fun j s e => ?_, fun j k o1 o2 a e1 e2 f1 f2 => ?_⟩
  · have lj : j < σ.length := by
      rw [← sr.len]
      have := (List.getElem?_eq_some_iff.mp e).1
      rw [List.length_set] at this
      exact this
    rcases get_set e with ⟨rfl, z⟩ | ⟨ne, e⟩
    · cases z
      exact ⟨_, by rw [List.getElem?_set_self lj], p, u, rfl, h1, h2, h3, h4⟩
    · obtain ⟨v', e1, h⟩ := sr.slot j s e
      exact ⟨v', by rw [List.getElem?_set_ne fun z => ne z.symm]; exact e1, h⟩
  · rcases get_set e1 with ⟨rfl, z1⟩ | ⟨n1, g1⟩
    · rcases get_set e2 with ⟨rfl, z2⟩ | ⟨n2, g2⟩
      · rfl
      · exfalso
        have f2 := get_setV f2 n2
        have lj : j < σ.length := by have := (List.getElem?_eq_some_iff.mp f1).1; rw [List.length_set] at this; exact this
        rw [List.getElem?_set_self lj] at f1
        cases f1
        exact h5 k o2 g2 f2
    · rcases get_set e2 with ⟨rfl, z2⟩ | ⟨n2, g2⟩
      · exfalso
        have f1 := get_setV f1 n1
        have lj : k < σ.length := by have := (List.getElem?_eq_some_iff.mp f2).1; rw [List.length_set] at this; exact this
        rw [List.getElem?_set_self lj] at f2
        cases f2
        exact h5 j o1 g1 f1
      · exact sr.sep j k o1 o2 a g1 g2 (get_setV f1 n1) (get_setV f2 n2)
end
/-! ### targets -/
def outcG {α : Type} (m : Res α) (k : α → Rho → Prop) : Prop := match m with
  | .ok a ρ' => k a ρ'
  | _ => False
theorem outcG.bind {α β : Type} {m : M α} {g : α → M β} {k : β → Rho → Prop} {ρ : Rho} (h : outcG (M.bind m g ρ) k) : outcG (m ρ) fun a ρ' => outcG (g a ρ') k := by
  unfold M.bind at h
  cases e : m ρ with
  | ok a ρ' => rw [e] at h; exact h
  | exc C fs ρ' => rw [e] at h; exact h
  | bad => rw [e] at h; exact h
theorem outcG.imp {α : Type} {m : Res α} {k k' : α → Rho → Prop} (h : outcG m k) (i : ∀ a ρ', k a ρ' → k' a ρ') : outcG m k' := by
  cases m with
  | ok a ρ' => exact i a ρ' h
  | exc C fs ρ' => exact h
  | bad => exact h
/-- the slots but those of vs are as they were -/
def Off (vs : List Nat) (σ σ' : L2.St) : Prop := σ'.length = σ.length ∧ ∀ j, j ∉ vs → σ'[j]? = σ[j]?
theorem Off.refl (σ : L2.St) : Off [] σ σ := ⟨rfl, fun _ _ => rfl⟩
theorem Off.trans {vs ws : List Nat} {σ σ' σ'' : L2.St} (a : Off vs σ σ') (b : Off ws σ' σ'') : Off (vs ++ ws) σ σ'' :=
  ⟨b.1.trans a.1, fun j n => (b.2 j fun m => n (List.mem_append_right _ m)).trans (a.2 j fun m => n (List.mem_append_left _ m))⟩
theorem Off.set (i : Nat) (σ : L2.St) (x : Option V) : Off [i] σ (σ.set i x) := ⟨List.length_set, fun j n => by rw [List.getElem?_set_ne fun z => n (by simp [z])]⟩
def tVG (K : PySem.W.Frag) (mg : Mg) (vs : List Nat) (g : RV → M Unit) : TG := fun v σ H Q => ∃ B F ρ r, SR K mg B F σ H ρ ∧ RVR K mg B F H σ ρ v r ∧ outcG (g r ρ) fun _ ρ' => ∀ σ' H' F', Off vs σ σ' → SR K mg B F' σ' H' ρ' → Same F F' → Q σ' H'
structure VG (X : Cx) (e : Expr) (vs : List Nat) (g : RV → M Unit) : Prop where
  run : PG X e (tVG X.K X.mg vs g)
theorem _root_.L2.PG.imp {X : Cx} {e : Expr} {t t' : TG} (h : PG X e t) (i : ∀ v σ H Q, t' v σ H Q → t v σ H Q) : PG X e t' := ⟨fun pins s σ H v u Q I r q => h.run pins s σ H v u Q I r (i v σ H Q q)⟩
theorem _root_.L2.PGs.imp {X : Cx} {e : List Expr} {t t' : TGs} (h : PGs X e t) (i : ∀ v σ H Q, t' v σ H Q → t v σ H Q) : PGs X e t' := ⟨fun pins s σ H v u Q I r q => h.run pins s σ H v u Q I r (i v σ H Q q)⟩
/-- a name -/
def gN (i : Nat) (r : RV) : M Unit := match r with
  | .val d => fun ρ => .ok () (ρ.set i (some (.val d)))
  | .own o => fun ρ => .ok () (ρ.set i (some (.own o)))
  | .pl j => fun ρ => match ρ[j]? with
    | some (some (.val d)) => .ok () (ρ.set i (some (.val d)))
    | some (some (.own o)) => .ok () ((ρ.set j (some (.val o.d))).set i (some (.val o.d)))
    | _ => .bad
def tVGs (K : PySem.W.Frag) (mg : Mg) (is : List Nat) (g : List D → M Unit) : TGs := fun vs σ H Q => ∃ B F ρ ds, SR K mg B F σ H ρ ∧ Reps K mg F vs ds ∧ outcG (g ds ρ) fun _ ρ' => ∀ σ' H' F', Off is σ σ' → SR K mg B F' σ' H' ρ' → Same F F' → Q σ' H'
structure VGs (X : Cx) (es : List Expr) (is : List Nat) (g : List D → M Unit) : Prop where
  run : PGs X es (tVGs X.K X.mg is g)
def gNil : List D → M Unit
  | [] => M.ret ()
  | _ => fun _ => .bad
def gCons (g : RV → M Unit) (gs : List D → M Unit) : List D → M Unit
  | d :: ds => M.bind (g (.val d)) fun _ => gs ds
  | _ => fun _ => .bad
/-- (a, b, ..) = a list or a tuple -/
def gT (n : Nat) (gs : List D → M Unit) (r : RV) : M Unit := fun ρ => match cont r ρ with
  | some (.lst ds) => if ds.length = n then gs ds ρ else .bad
  | some (.tup ds) => if ds.length = n then gs ds ρ else .bad
  | _ => .bad
section
variable {X : Cx} {pos : Pos}
theorem vg_name {i : Nat} {x : Str} (hN : X.N.Nodup) (hi : X.N[i]? = some x) (hx : Loc X.env.scope x) (hf : X.fn x = true ∨ X.env.scope.names.lookup x = some .local := by first | exact .inl rfl | exact .inr rfl | assumption) : VG X (.Name x pos) [i] (gN i) := by
  refine ⟨(pg_name hN hi hx hf).imp fun v σ H Q ⟨B, F, ρ, r, sr, rv, h⟩ => ?_⟩
  cases r with
  | val d => exact h _ H F (Off.set i σ _) (sr.setVal rv) (Same.refl _)
  | own o => exact h _ H F (Off.set i σ _) (sr.setOwn rv) (Same.refl _)
  | pl j =>
    unfold gN at h
    dsimp only at h
    obtain ⟨ev, s, es⟩ := rv
    rw [es] at h
    cases s with
    | val d =>
      obtain ⟨v', e1, hs⟩ := sr.slot j _ es
      rw [ev] at e1
      cases e1
      exact h _ H F (Off.set i σ _) (sr.setVal hs) (Same.refl _)
    | own o =>
      obtain ⟨F', sr', s', rep⟩ := sr.settle es ev
      exact h _ H F' (Off.set i σ _) (sr'.setVal rep) s'
    | par o => exact h.elim
theorem vgs_nil : VGs X [] [] gNil := by
  refine ⟨pgs_nil.imp fun vs σ H Q ⟨B, F, ρ, ds, sr, rv, h⟩ => ?_⟩
  cases rv with
  | nil => exact ⟨rfl, h _ H F (Off.refl _) sr (Same.refl _)⟩
  | cons _ _ => exact h.elim
theorem vgs_cons {e : Expr} {es : List Expr} {g : RV → M Unit} {gs : List D → M Unit} {vs ws : List Nat} (h1 : VG X e vs g) (h2 : VGs X es ws gs)
    (hs : (assignEach (e :: es) X.env).map (·.2) = assign e X.env :: (assignEach es X.env).map (·.2) := by rfl) : VGs X (e :: es) (vs ++ ws) (gCons g gs) := by
  refine ⟨(pgs_cons h1.run h2.run hs).imp fun vs σ H Q ⟨B, F, ρ, ds, sr, rv, h⟩ => ?_⟩
  cases rv with
  | nil => exact h.elim
  | cons r1 rv =>
    refine ⟨_, _, rfl, B, F, ρ, .val _, sr, r1, (outcG.bind h).imp fun _ ρ1 h σ1 H1 F1 o1 sr1 s1 => ?_⟩
    exact ⟨B, F1, ρ1, _, sr1, rv.same s1, h.imp fun _ ρ2 h σ2 H2 F2 o2 sr2 s2 => h σ2 H2 F2 (o1.trans o2) sr2 (s1.trans s2)⟩
theorem pg_or {e : Expr} {t t' : TG} (h : PG X e t) (h' : PG X e t') : PG X e (fun v σ H Q => t v σ H Q ∨ t' v σ H Q) := ⟨fun pins s σ H v u Q I r q => q.elim (h.run pins s σ H v u Q I r) (h'.run pins s σ H v u Q I r)⟩
theorem vg_tup {es : List Expr} {k : Nat} {gs : List D → M Unit} {n : Nat} {is : List Nat} (hc : X.calm = true) (h : VGs X es is gs)
    (hn : (assignEach es X.env).length = n := by rfl) (hst : (assignEach es X.env).findIdx? (·.1) = none := by rfl) : VG X (.Tuple es k pos) is (gT n gs) := by
  refine ⟨(pg_or (pg_seq true hc h.run hn hst) (pg_seq false hc h.run hn hst)).imp fun v σ H Q ⟨B, F, ρ, r, sr, rv, h⟩ => ?_⟩
  unfold gT at h
  split at h
  · rename_i ds q
    split at h
    · rename_i len
      obtain ⟨a, vs, rfl, k1, z1, r1⟩ := (rv.cont sr q).lst_ sr.same
      exact .inl ⟨a, vs, rfl, k1.sq, by rw [r1.length]; exact len, B, F, ρ, ds, sr, r1, h⟩
    · exact h.elim
  · rename_i ds q
    split at h
    · rename_i len
      obtain ⟨a, vs, rfl, k1, z1, r1⟩ := (rv.cont sr q).tup_
      exact .inr ⟨a, vs, rfl, same_t sr.same k1.sq, by rw [r1.length]; exact len, B, F, ρ, ds, sr, r1, h⟩
    · exact h.elim
  · exact h.elim
end
end VE

namespace VE
open PySem PySem.Spec PyProof.Rows L2 G0
/-! ### blocks -/
def sNx : M Flow := M.ret .nx
def sSeq (f g : M Flow) : M Flow := fun ρ => match f ρ with
  | .ok .nx ρ' => g ρ'
  | r => r
def sExp (f : M RV) : M Flow := M.bind f fun _ => M.ret .nx
def moveR (r : RV) : M RV := match r with
  | .pl i => fun ρ => match ρ[i]? with
    | some (some (.val d)) => .ok (.val d) ρ
    | some (some (.own o)) => .ok (.own o) (ρ.set i none)
    | _ => .bad
  | r => M.ret r
def sRet (f : M RV) : M Flow := M.bind f fun r => M.bind (moveR r) fun r => M.ret (.rt r)
def sRetN : M Flow := M.ret (.rt (.val .non))
def sIf (c : M Bool) (f g : M Flow) : M Flow := M.bind c fun b => if b = true then f else g
def sAsg (f : M RV) (g : RV → M Unit) : M Flow := M.bind f fun r => M.bind (g r) fun _ => M.ret .nx
def sPar (i j : Nat) (f : M (List RV)) : M Flow := M.bind f fun rs => M.bind (settle rs) fun ds => fun ρ => match ds with
  | [d, e] => .ok .nx ((ρ.set i (some (.val d))).set j (some (.val e)))
  | _ => .bad
def sPar3 (i j k : Nat) (f : M (List RV)) : M Flow := M.bind f fun rs => M.bind (settle rs) fun ds => fun ρ => match ds with
  | [d, e, d3] => .ok .nx (((ρ.set i (some (.val d))).set j (some (.val e))).set k (some (.val d3)))
  | _ => .bad
def sAug (i : Nat) (op : Int → Int → Int) (f : M RV) : M Flow := fun ρ => match ρ[i]? with
  | some (some (.val (.int n))) => M.bind f (fun r => fun ρ => match cont r ρ with
    | some (.int m) => .ok .nx (ρ.set i (some (.val (.int (op n m)))))
    | _ => .bad) ρ
  | _ => .bad
section
variable {K : PySem.W.Frag} {mg : Mg} {W : WX} {B : Bs} {F F' H H' : Hp} {σ : L2.St} {ρ : Rho} {De : Ends}
/-- an expression's outcome within a statement -/
theorem outcS.of {α : Type} {m : M α} {g : α → M Flow} {k : Flow → Rho → Prop} (h : outcS K mg W B F (M.bind m g ρ) k) : outcome K mg W B F σ (m ρ) fun a ρ' => outcS K mg W B F (g a ρ') k := outcS.bind h
theorem outcG_of {α : Type} {m : M α} {g : α → M Flow} {k : Flow → Rho → Prop} (h : outcS K mg W B F (M.bind m g ρ) k) (no : ∀ C fs ρ', m ρ ≠ .exc C fs ρ') : outcG (m ρ) fun a ρ' => outcS K mg W B F (g a ρ') k := by
  unfold M.bind at h
  cases e : m ρ with
  | ok a ρ' => rw [e] at h; exact h
  | exc C fs ρ' => exact absurd e (no C fs ρ')
  | bad => rw [e] at h; exact h
end
/-- what raises nothing -/
def Calm {α : Type} (m : M α) : Prop := ∀ ρ C fs ρ', m ρ ≠ .exc C fs ρ'
theorem calm_ret {α : Type} {a : α} : Calm (M.ret a) := fun _ _ _ _ z => nomatch z
theorem calm_bind {α β : Type} {m : M α} {f : α → M β} (h : Calm m) (k : ∀ a, Calm (f a)) : Calm (M.bind m f) := fun ρ C fs ρ' z => by
  unfold M.bind at z
  cases e : m ρ with
  | ok a ρ1 => rw [e] at z; exact k a _ _ _ _ z
  | exc C fs ρ1 => exact h _ _ _ _ e
  | bad => rw [e] at z; cases z
theorem calm_gN {i : Nat} {r : RV} : Calm (gN i r) := fun ρ C fs ρ' z => by
  unfold gN at z
  cases r with
  | val d => cases z
  | own o => cases z
  | pl j =>
    dsimp only at z
    split at z <;> cases z
theorem calm_gNil {ds : List D} : Calm (gNil ds) := fun ρ C fs ρ' z => by cases ds <;> cases z
theorem calm_gCons {g : RV → M Unit} {gs : List D → M Unit} (h1 : ∀ r, Calm (g r)) (h2 : ∀ ds, Calm (gs ds)) (ds : List D) : Calm (gCons g gs ds) := by
  cases ds with
  | nil => exact fun ρ C fs ρ' z => by cases z
  | cons d ds => exact calm_bind (h1 _) fun _ => h2 _
theorem calm_gT {n : Nat} {gs : List D → M Unit} (h : ∀ ds, Calm (gs ds)) {r : RV} : Calm (gT n gs r) := fun ρ C fs ρ' z => by
  unfold gT at z
  split at z
  · split at z
    · exact h _ _ _ _ _ z
    · cases z
  · split at z
    · exact h _ _ _ _ _ z
    · cases z
  · cases z
section
variable {X : Cx} {e : Expr} {es : List Expr} {f : M RV} {fs : M (List RV)} {pos : Pos} {st : Stmt} {rest a b : List Stmt} {u v : M Flow} {c : Expr} {g : M Bool}
theorem vss_nil : VSs X [] sNx := ⟨fun W tk => pss_nil.imp fun σ H De ⟨B, F, ρ, sr, h⟩ => h σ H F sr (Same.refl _)⟩
theorem vss_cons (h1 : VS X st u) (h2 : VSs X rest v) : VSs X (st :: rest) (sSeq u v) := by
  refine ⟨fun W tk => (pss_cons (h1.run W tk) (h2.run W tk)).imp fun σ H De ⟨B, F, ρ, sr, h⟩ => ?_⟩
  refine ⟨B, F, ρ, sr, ?_⟩
  unfold sSeq at h
  cases q : u ρ with
  | bad => rw [q] at h; exact h.elim
  | exc C fs ρ' => rw [q] at h; exact h
  | ok fl ρ' =>
    rw [q] at h
    cases fl with
    | nx => exact fun σ' H' F' sr' s' => ⟨B, F', ρ', sr', (h.mono s').imp fun fl ρ2 h => h.mono s'⟩
    | rt r => exact h
    | bk => exact h
    | ct => exact h
theorem vss_one (h1 : VS X st u) : VSs X [st] u := ⟨fun W tk => (pss_one (h1.run W tk)).imp fun σ H De h => h⟩
theorem vs_pass : VS X (.Pass pos) sNx := ⟨fun W tk => ps_pass.imp fun σ H De ⟨B, F, ρ, sr, h⟩ => h σ H F sr (Same.refl _)⟩
theorem vs_break : VS X (.Break pos) (M.ret .bk) := ⟨fun W tk => ps_break.imp fun σ H De ⟨B, F, ρ, sr, h⟩ => h σ H F sr (Same.refl _)⟩
theorem vs_continue : VS X (.Continue pos) (M.ret .ct) := ⟨fun W tk => ps_continue.imp fun σ H De ⟨B, F, ρ, sr, h⟩ => h σ H F sr (Same.refl _)⟩
theorem vs_expr (he : VE X e f) (hs : swapsWith e none pos.line X.env = pure false := by rfl) : VS X (.Expr e pos) (sExp f) := by
  refine ⟨fun W tk => (ps_expr (he.run W tk) hs).imp fun σ H De ⟨B, F, ρ, sr, h⟩ => ?_⟩
  exact ⟨B, F, ρ, sr, (outcS.of h).imp fun r ρ1 h v H1 F1 sr1 s1 rv => h σ H1 F1 sr1 s1⟩
theorem vs_retN : VS X (.Return none pos) sRetN := ⟨fun W tk => ps_retN.imp fun σ H De ⟨B, F, ρ, sr, h⟩ => h _ σ H F sr (Same.refl _) .non⟩
theorem vs_ret (he : VE X e f) : VS X (.Return (some e) pos) (sRet f) := by
  refine ⟨fun W tk => (ps_ret (he.run W tk)).imp fun σ H De ⟨B, F, ρ, sr, h⟩ => ?_⟩
  refine ⟨B, F, ρ, sr, (outcS.of h).imp fun r ρ1 h v H1 F1 sr1 s1 rv => ?_⟩
  cases r with
  | val d => exact h v σ H1 F1 sr1 s1 rv
  | own o => exact h v σ H1 F1 sr1 s1 rv
  | pl i =>
    obtain ⟨ev, s, es⟩ := rv
    have h := outcS.of (σ := σ) h
    unfold moveR at h
    dsimp only at h
    rw [es] at h
    obtain ⟨v', e1, hs⟩ := sr1.slot i _ es
    rw [ev] at e1
    cases e1
    cases s with
    | val d => exact h v σ H1 F1 sr1 s1 hs
    | own o =>
      obtain ⟨p, w, rfl, k1, k2, k3, k4⟩ := hs
      refine h _ σ H1 F1 (sr1.drop i) s1 ⟨p, w, rfl, k1, k2, k3, k4, fun j o' ej e2 => ?_⟩
      rcases get_set ej with ⟨_, z⟩ | ⟨ne, ej⟩
      · cases z
      · exact ne (sr1.sep j i o' o p ej es e2 ev)
    | par o => exact h.elim
theorem vs_if (hc : VT X c g) (ha : VSs X a u) (hb : VSs X b v) : VS X (.If c a b pos) (sIf g u v) := by
  refine ⟨fun W tk => (ps_if (hc.run W tk) (ha.run W tk) (hb.run W tk)).imp fun σ H De ⟨B, F, ρ, sr, h⟩ => ?_⟩
  refine ⟨B, F, ρ, sr, (outcS.of h).imp fun k ρ1 h H1 F1 sr1 s1 => ?_⟩
  cases k with
  | true => exact iteT ⟨B, F1, ρ1, sr1, (h.mono s1).imp fun fl ρ2 h => h.mono s1⟩
  | false => exact iteF ⟨B, F1, ρ1, sr1, (h.mono s1).imp fun fl ρ2 h => h.mono s1⟩
theorem vs_asg {tg : Expr} {t : RV → M Unit} {is : List Nat} (he : VE X e f) (hg : VG X tg is t) (cg : ∀ r, Calm (t r)) (hs : swapsWithSole [tg] e pos.line X.env = pure false := by rfl) (hw : swappedStores [tg] e X.env = pure none := by rfl)
    (h1 : (assignEach [tg] X.env).map (·.2) = [assign tg X.env] := by rfl) : VS X (.Assign [tg] e pos) (sAsg f t) := by
  refine ⟨fun W tk => (ps_asg (he.run W tk) hg.run hs hw h1).imp fun σ H De ⟨B, F, ρ, sr, h⟩ => ?_⟩
  refine ⟨B, F, ρ, sr, (outcS.of h).imp fun r ρ1 h v H1 F1 sr1 s1 rv => ?_⟩
  exact ⟨B, F1, ρ1, r, sr1, rv, (outcG_of h (cg r ρ1)).imp fun _ ρ2 h σ2 H2 F2 _ sr2 s2 => h σ2 H2 F2 sr2 (s1.trans s2)⟩
theorem vs_set {i : Nat} {x : Str} {pos' : Pos} (hN : X.N.Nodup) (hi : X.N[i]? = some x) (hx : Loc X.env.scope x) (he : VE X e f) (hs : swapsWith e (some (.Name x pos')) pos.line X.env = pure false := by rfl) (hf : X.fn x = true ∨ X.env.scope.names.lookup x = some .local := by first | exact .inl rfl | exact .inr rfl | assumption) :
    VS X (.Assign [.Name x pos'] e pos) (sAsg f (gN i)) := by
  refine ⟨fun W tk => (ps_set hN hi hx (he.run W tk) hs hf).imp fun σ H De ⟨B, F, ρ, sr, h⟩ => ?_⟩
  refine ⟨B, F, ρ, sr, (outcS.of h).imp fun r ρ1 h v H1 F1 sr1 s1 rv => ?_⟩
  cases r with
  | val d => exact h _ H1 F1 (sr1.setVal rv) s1
  | own o => exact h _ H1 F1 (sr1.setOwn rv) s1
  | pl j =>
    have h := outcG_of h (calm_gN ρ1)
    unfold gN at h
    dsimp only at h
    obtain ⟨ev, s, es⟩ := rv
    rw [es] at h
    cases s with
    | val d =>
      obtain ⟨v', e1, hs⟩ := sr1.slot j _ es
      rw [ev] at e1
      cases e1
      exact h _ H1 F1 (sr1.setVal hs) s1
    | own o =>
      obtain ⟨F', sr', s', rep⟩ := sr1.settle es ev
      exact h _ H1 F' (sr'.setVal rep) (s1.trans s')
    | par o => exact h.elim
theorem set1_calm (r : RV) : Calm (set1 r) := fun ρ C fs ρ' z => by
  cases r with
  | val d => cases z
  | own o => cases z
  | pl i => unfold set1 at z; dsimp only at z; split at z <;> cases z
theorem settle_calm : ∀ rs : List RV, Calm (settle rs)
  | [] => calm_ret
  | r :: rs => calm_bind (set1_calm r) fun d => calm_bind (settle_calm rs) fun _ => calm_ret
theorem settle_runS {K : PySem.W.Frag} {mg : Mg} {W : WX} {B : Bs} {F0 F H : Hp} {σ : L2.St} {g : List D → M Flow} {k : Flow → Rho → Prop} {rs : List RV} {vs : List V} {ρ : Rho} (sr : SR K mg B F σ H ρ) (rv : RVs K mg F σ vs rs) (s0 : Same F0 F)
    (h : outcS K mg W B F0 (M.bind (settle rs) g ρ) k) : ∃ ds F' ρ', SR K mg B F' σ H ρ' ∧ Same F F' ∧ Reps K mg F' vs ds ∧ outcS K mg W B F0 (g ds ρ') k :=
  settle_run (k := fun ds ρ' => outcS K mg W B F0 (g ds ρ') k) sr rv s0 (outcS.of h)
theorem vs_par {i j : Nat} {x y : Str} {a b : Expr} {px py pt : Pos} {kt k2 : Nat} {pt2 : Pos} (hc : X.calm = true) (hN : X.N.Nodup) (hi : X.N[i]? = some x) (hj : X.N[j]? = some y) (hij : i ≠ j)
    (hx : X.env.scope.names.lookup x = some .local) (hy : X.env.scope.names.lookup y = some .local) (ha : VA X [a, b] fs)
    (hw : swappedStores [.Tuple [.Name x px, .Name y py] kt pt] (.Tuple [a, b] k2 pt2) X.env = pure (some [x, y]))
    (hs : swapsWithSole [.Tuple [.Name x px, .Name y py] kt pt] (.Tuple [a, b] k2 pt2) pos.line X.env = pure false := by rfl) :
    VS X (.Assign [.Tuple [.Name x px, .Name y py] kt pt] (.Tuple [a, b] k2 pt2) pos) (sPar i j fs) := by
  refine ⟨fun W tk => (ps_par hc hN hi hj hij hx hy (ha.run W tk) hw hs).imp fun σ H De ⟨B, F, ρ, sr, h⟩ => ?_⟩
  refine ⟨B, F, ρ, sr, (outcS.of h).imp fun rs ρ1 h vs H1 F1 sr1 s1 rvs => ?_⟩
  obtain ⟨ds, F2, ρ2, sr2, s2, reps, h⟩ := settle_runS sr1 rvs s1 h
  cases reps with
  | nil => exact h.elim
  | cons r1 reps =>
    cases reps with
    | nil => exact h.elim
    | cons r2 reps =>
      cases reps with
      | cons _ _ => exact h.elim
      | nil => exact ⟨_, _, rfl, h _ H1 F2 ((sr2.setVal r1).setVal r2) (s1.trans s2)⟩
theorem vs_par3 {i j l : Nat} {x y z : Str} {a b c : Expr} {px py pz pt : Pos} {kt k2 : Nat} {pt2 : Pos} (hc : X.calm = true) (hN : X.N.Nodup) (hi : X.N[i]? = some x) (hj : X.N[j]? = some y) (hl : X.N[l]? = some z) (hij : i ≠ j) (hil : i ≠ l) (hjl : j ≠ l)
    (hx : X.env.scope.names.lookup x = some .local) (hy : X.env.scope.names.lookup y = some .local) (hz : X.env.scope.names.lookup z = some .local) (ha : VA X [a, b, c] fs)
    (hw : swappedStores [.Tuple [.Name x px, .Name y py, .Name z pz] kt pt] (.Tuple [a, b, c] k2 pt2) X.env = pure (some [x, y, z]))
    (hs : swapsWithSole [.Tuple [.Name x px, .Name y py, .Name z pz] kt pt] (.Tuple [a, b, c] k2 pt2) pos.line X.env = pure false := by rfl) :
    VS X (.Assign [.Tuple [.Name x px, .Name y py, .Name z pz] kt pt] (.Tuple [a, b, c] k2 pt2) pos) (sPar3 i j l fs) := by
  refine ⟨fun W tk => (ps_par3 hc hN hi hj hl hij hil hjl hx hy hz (ha.run W tk) hw hs).imp fun σ H De ⟨B, F, ρ, sr, h⟩ => ?_⟩
  refine ⟨B, F, ρ, sr, (outcS.of h).imp fun rs ρ1 h vs H1 F1 sr1 s1 rvs => ?_⟩
  obtain ⟨ds, F2, ρ2, sr2, s2, reps, h⟩ := settle_runS sr1 rvs s1 h
  cases reps with
  | nil => exact h.elim
  | cons r1 reps =>
    cases reps with
    | nil => exact h.elim
    | cons r2 reps =>
      cases reps with
      | nil => exact h.elim
      | cons r3 reps =>
        cases reps with
        | cons _ _ => exact h.elim
        | nil => exact ⟨_, _, _, rfl, h _ H1 F2 (((sr2.setVal r1).setVal r2).setVal r3) (s1.trans s2)⟩
theorem vs_aug {i : Nat} {x : Str} {op : Operator} {o : Int → Int → Int} {pos' : Pos} (ho : PIp X op (ipI o)) (hN : X.N.Nodup) (hi : X.N[i]? = some x) (hx : Loc X.env.scope x) (he : VE X e f)
    (hf : X.fn x = true ∨ X.env.scope.names.lookup x = some .local := by first | exact .inl rfl | exact .inr rfl | assumption) :
    VS X (.AugAssign (.Name x pos') op e pos) (sAug i o f) := by
  refine ⟨fun W tk => (ps_aug hN hi hx (he.run W tk) ho hf).imp fun σ H De ⟨B, F, ρ, sr, h⟩ => ?_⟩
  unfold sAug at h
  split at h
  · rename_i n q
    obtain ⟨v, e1, hs⟩ := sr.slot i _ q
    cases (show Rep X.K X.mg F v (.int n) from hs)
    refine ⟨_, e1, B, F, ρ, sr, (outcS.of h).imp fun r ρ1 h v H1 F1 sr1 s1 rv => ?_⟩
    split at h
    · rename_i m q
      cases (rv.cont sr1 q).int_
      exact ⟨_, _, rfl, rfl, h _ H1 F1 (sr1.setVal (.int _)) s1⟩
    · exact h.elim
  · exact h.elim
end
/-! ### loops -/
def forL (g : RV → M Unit) (body : M Flow) : List D → M Flow
  | [] => M.ret .nx
  | d :: ds => M.bind (g (.val d)) fun _ => fun ρ => match body ρ with
    | .ok .nx ρ' => forL g body ds ρ'
    | .ok .ct ρ' => forL g body ds ρ'
    | .ok .bk ρ' => .ok .nx ρ'
    | .ok (.rt r) ρ' => .ok (.rt r) ρ'
    | .exc C fs ρ' => .exc C fs ρ'
    | .bad => .bad
def sFor (it : M (List D)) (g : RV → M Unit) (body : M Flow) : M Flow := M.bind it fun ds => forL g body ds
def whL (c : M Bool) (body : M Flow) : Nat → M Flow
  | 0 => fun _ => .bad
  | n + 1 => M.bind c fun b => if b = true then (fun ρ => match body ρ with
      | .ok .nx ρ' => whL c body n ρ'
      | .ok .ct ρ' => whL c body n ρ'
      | .ok .bk ρ' => .ok .nx ρ'
      | .ok (.rt r) ρ' => .ok (.rt r) ρ'
      | .exc C fs ρ' => .exc C fs ρ'
      | .bad => .bad) else M.ret .nx
/-- as many turns as there will ever be -/
def fuel : Nat := 1099511627776
def sWhile (c : M Bool) (body : M Flow) : M Flow := whL c body fuel
/-- what an iterator gives, item by item -/
def ItOk (K : PySem.W.Frag) (mg : Mg) (F : Hp) (J : It) (ds : List D) : Prop := ∃ G Y, Walk J ds.length G Y ∧ (∀ H, Same F H → G H) ∧ ds.length ≤ sizeLine ∧ ∀ i d, ds[i]? = some d → ∀ H v H', Y i H v H' → ∀ F1, Same F F1 → Same F1 H → ∃ F2, NewG K mg F1 H F2 H' v (.val d)
def tVI (K : PySem.W.Frag) (mg : Mg) (W : WX) (f : M (List D)) : TI := fun σ H R => ∃ B F ρ, SR K mg B F σ H ρ ∧ outcome K mg W B F σ (f ρ) fun ds ρ' => ∀ J H' F', SR K mg B F' σ H' ρ' → Same F F' → ItOk K mg F' J ds → R J H'
structure VI (X : Cx) (tg e : Expr) (f : M (List D)) : Prop where
  run : ∀ W, Takes X W → PI X tg e (tVI X.K X.mg W f)
theorem _root_.L2.PI.imp {X : Cx} {tg e : Expr} {t t' : TI} (h : PI X tg e t) (i : ∀ σ H R, t' σ H R → t σ H R) : PI X tg e t' := ⟨fun pins s σ H R I q => h.run pins s σ H R I (i σ H R q)⟩
section
variable {X : Cx} {tg e : Expr} {f : M (List D)} {g : RV → M Unit} {u : M Flow} {body : List Stmt} {pos : Pos} {c : Expr} {k : M Bool}
theorem body_end {K : PySem.W.Frag} {mg : Mg} {W : WX} {B : Bs} {F0 F : Hp} {ρ : Rho} {De : Ends} {N : L2.St → Hp → Prop} {u : M Flow} {rest : Rho → Res Flow} (s0 : Same F0 F)
    (h : outcS K mg W B F0 (match u ρ with
      | .ok .nx ρ' => rest ρ'
      | .ok .ct ρ' => rest ρ'
      | .ok .bk ρ' => .ok .nx ρ'
      | .ok (.rt r) ρ' => .ok (.rt r) ρ'
      | .exc C fs ρ' => .exc C fs ρ'
      | .bad => .bad) (ends K mg B F0 De))
    (n : ∀ ρ', outcS K mg W B F0 (rest ρ') (ends K mg B F0 De) → ∀ σ' H' F', SR K mg B F' σ' H' ρ' → Same F F' → N σ' H') :
    outcS K mg W B F (u ρ) (ends K mg B F { De with nx := N, ct := N, bk := De.nx }) := by
  cases q : u ρ with
  | bad => rw [q] at h; exact h.elim
  | exc C fs ρ' => rw [q] at h; exact outS.mono s0 h
  | ok fl ρ' =>
    rw [q] at h
    cases fl with
    | nx => exact fun σ' H' F' sr' s' => n ρ' h σ' H' F' sr' s'
    | ct => exact fun σ' H' F' sr' s' => n ρ' h σ' H' F' sr' s'
    | bk => exact fun σ' H' F' sr' s' => h σ' H' F' sr' (s0.trans s')
    | rt r => exact fun v σ' H' F' sr' s' => h v σ' H' F' sr' (s0.trans s')
theorem vs_for {is : List Nat} (hp : ∀ W, Takes X W → PassesOwn (model X.prog X.w) X.A X.env X.xe) (hc : X.calm = true) (hi : VI X tg e f) (hg : VG X tg is g) (cg : ∀ r, Calm (g r)) (hb : VSs X body u)
    (hs : ∀ x, foldedSetIterable e X.env x = pure x := by intro _; rfl) : VS X (.For tg e body [] pos) (sFor f g u) := by
  refine ⟨fun W tk => (ps_for (hp W tk) hc (hi.run W tk) hg.run (hb.run W tk) hs).imp fun σ H De ⟨B, F, ρ, sr, h⟩ => ?_⟩
  refine ⟨B, F, ρ, sr, (outcS.of h).imp fun ds ρ1 h J H1 F1 sr1 s1 ⟨G, Y, wk, gh, zl, it⟩ => ?_⟩
  refine for_it wk (fun i σ H => ∃ F2 ρ2, SR X.K X.mg B F2 σ H ρ2 ∧ Same F1 F2 ∧ outcS X.K X.mg W B F (forL g u (ds.drop i) ρ2) (ends X.K X.mg B F De)) ⟨F1, ρ1, sr1, Same.refl _, h⟩ (fun i σ H _ ⟨F2, ρ2, sr2, s2, _⟩ => gh H (s2.trans sr2.same)) ?_ ?_
  · rintro i x σ2 H2 H3 hi ⟨F2, ρ2, sr2, s2, h⟩ y
    obtain ⟨d, hd⟩ : ∃ d, ds[i]? = some d := ⟨ds[i], by simp [hi]⟩
    have e1 : ds.drop i = d :: ds.drop (i + 1) := by
      rw [List.getElem?_eq_some_iff] at hd
      obtain ⟨_, hd⟩ := hd
      rw [List.drop_eq_getElem_cons hi, hd]
    rw [e1] at h
    obtain ⟨F3, n⟩ := it i d hd H2 x H3 y F2 s2 sr2.same
    obtain ⟨sr3, rv3⟩ := n.sr sr2
    refine ⟨B, F3, ρ2, .val d, sr3, rv3, (outcG_of h (cg _ _)).imp fun _ ρ3 h σ4 H4 F4 _ sr4 s4 => ?_⟩
    have s04 : Same F F4 := ((s1.trans s2).trans n.sF).trans s4
    exact ⟨B, F4, ρ3, sr4, body_end s04 h fun ρ' h' σ' H' F' sr' s' => ⟨F', ρ', sr', ((s2.trans n.sF).trans s4).trans s', h'⟩⟩
  · rintro σ2 H2 ⟨F2, ρ2, sr2, s2, h⟩
    rw [List.drop_length] at h
    exact h σ2 H2 F2 sr2 (s1.trans s2)
theorem vs_while (hp : ∀ W, Takes X W → PassesOwn (model X.prog X.w) X.A X.env X.xe) (hc : VT X c k) (hb : VSs X body u) : VS X (.While c body [] pos) (sWhile k u) := by
  refine ⟨fun W tk => (ps_while (hp W tk) (hc.run W tk) (hb.run W tk)).imp fun σ H De ⟨B, F, ρ, sr, h⟩ => ?_⟩
  unfold sWhile at h
  revert h
  generalize fuel = N
  intro h
  refine ⟨fun m σ H => ∃ F2 ρ2, SR X.K X.mg B F2 σ H ρ2 ∧ Same F F2 ∧ outcS X.K X.mg W B F (whL k u m ρ2) (ends X.K X.mg B F De), ⟨N, F, ρ, sr, Same.refl _, h⟩, ?_⟩
  rintro m σ2 H2 ⟨F2, ρ2, sr2, s2, h⟩
  cases m with
  | zero => exact h.elim
  | succ m =>
    unfold whL at h
    refine ⟨B, F2, ρ2, sr2, (outcome.mono s2 (outcS.of h)).imp fun b ρ3 h H3 F3 sr3 s3 => ?_⟩
    cases b with
    | true =>
      rw [if_pos rfl] at h
      refine iteT ⟨_, fun σ' H' p => ⟨m, Nat.lt_succ_self _, p⟩, B, F3, ρ3, sr3, body_end (s2.trans s3) h fun ρ' h' σ' H' F' sr' s' => ⟨F', ρ', sr', (s2.trans s3).trans s', h'⟩⟩
    | false => exact iteF (h σ2 H3 F3 sr3 (s2.trans s3))
end
end VE

namespace VE
open PySem PySem.Spec PyProof.Rows L2 G0
/-! ### comprehensions -/
def wipeE (ρ : Rho) : List Nat → Rho
  | [] => ρ
  | v :: vs => (wipeE ρ vs).set v none
def noexc {α : Type} (m : M α) : M α := fun ρ => match m ρ with
  | .ok a ρ' => .ok a ρ'
  | _ => .bad
def turn (g : RV → M Unit) (t : M Bool) (e : M RV) (d : D) : M (Option D) := M.bind (g (.val d)) fun _ => M.bind t fun b => if b = true then M.bind e fun r => M.bind (set1 r) fun y => M.ret (some y) else M.ret none
def lcL (g : RV → M Unit) (t : M Bool) (e : M RV) (vs : List Nat) : List D → M (List D)
  | [] => M.ret []
  | d :: ds => M.bind (noexc (turn g t e d)) fun o => fun ρ => M.bind (lcL g t e vs ds) (fun l => M.ret (o.toList ++ l)) (wipeE ρ vs)
/-- the def's own values come back -/
def unwipe (ρ1 ρ : Rho) : List Nat → Rho
  | [] => ρ
  | v :: vs => (unwipe ρ1 ρ vs).set v (match ρ1[v]? with
    | some (some (.val d)) => some (.val d)
    | _ => none)
def mLC (it : M (List D)) (g : RV → M Unit) (t : M Bool) (e : M RV) (vs : List Nat) : M RV := M.bind it fun ds => fun ρ1 => match lcL g t e vs ds (wipeE ρ1 vs) with
  | .ok l ρ => .ok (.own (.lst l)) (unwipe ρ1 ρ vs)
  | _ => .bad
def tt1 : M Bool := M.ret true
structure VTs (X : Cx) (ifs : List Expr) (t : M Bool) : Prop where
  run : ∀ W, Takes X W → PTs X ifs (tVT X.K X.mg W t)
section
variable {K : PySem.W.Frag} {mg : Mg} {W : WX} {B : Bs} {F F' H H' : Hp} {σ : L2.St} {ρ : Rho} {v : V} {r : RV} {d : D} {i : Nat}
theorem outcG.out {α : Type} {m : Res α} {k : α → Rho → Prop} (h : outcG m k) : outcome K mg W B F σ m k := by
  cases m with
  | ok a ρ' => exact h
  | exc C fs ρ' => exact h.elim
  | bad => exact h.elim
theorem noexc_run {α : Type} {m : M α} {k : α → Rho → Prop} (h : outcG (noexc m ρ) k) : outcG (m ρ) k := by
  unfold noexc at h
  cases e : m ρ with
  | ok a ρ' => rw [e] at h; exact h
  | exc C fs ρ' => rw [e] at h; exact h.elim
  | bad => rw [e] at h; exact h.elim
theorem wipeE_len (ρ : Rho) : ∀ vs : List Nat, (wipeE ρ vs).length = ρ.length
  | [] => rfl
  | v :: vs => by unfold wipeE; rw [List.length_set, wipeE_len ρ vs]
theorem wipeE_some {i : Nat} {s : Slot} : ∀ {vs : List Nat}, (wipeE ρ vs)[i]? = some (some s) → ρ[i]? = some (some s) ∧ i ∉ vs
  | [], h => ⟨h, by simp⟩
  | v :: vs, h => by
    unfold wipeE at h
    rcases get_set h with ⟨_, z⟩ | ⟨ne, h⟩
    · cases z
    · obtain ⟨h1, h2⟩ := wipeE_some h
      exact ⟨h1, by simp only [List.mem_cons, not_or]; exact ⟨ne, h2⟩⟩
theorem SR.wipe (sr : SR K mg B F σ H ρ) (vs : List Nat) : SR K mg B F (L2.wipe σ vs) H (wipeE ρ vs) where
  len := by rw [wipeE_len, wipe_length]; exact sr.len
  same := sr.same
  ent := sr.ent
  away := sr.away
  keep := sr.keep
  pth := sr.pth
  pinj := sr.pinj
  slot := fun j s e => by
    obtain ⟨e, n⟩ := wipeE_some e
    obtain ⟨v, e1, h⟩ := sr.slot j s e
    exact ⟨v, by rw [wipe_out n]; exact e1, h⟩
  sep := fun j k o o' a e1 e2 f1 f2 => sr.sep j k o o' a (wipeE_some e1).1 (wipeE_some e2).1 (wipe_some f1).1 (wipe_some f2).1
/-- the slots but vs are told: so they are of another state that differs at vs alone -/
theorem SR.unwipe {vs : List Nat} {ρ1 : Rho} {F1 : Hp} (sr : SR K mg B F (L2.wipe σ vs) H ρ) (sr1 : SR K mg B F1 σ H' ρ1) (s : Same F1 F) : ∀ ws : List Nat, (∀ w ∈ ws, w ∈ vs) → (∀ j s, ρ[j]? = some (some s) → j ∉ vs) → SR K mg B F σ H (unwipe ρ1 ρ ws)
  | [], _, nv => ⟨by have := sr.len; rw [wipe_length] at this; exact this, sr.same, sr.ent, sr.away, sr.keep, sr.pth, sr.pinj, fun j s e => by
      obtain ⟨v, e1, h⟩ := sr.slot j s e
      rw [wipe_out (nv j s e)] at e1
      exact ⟨v, e1, h⟩, fun j k o o' a e1 e2 f1 f2 => sr.sep j k o o' a e1 e2 (by rw [wipe_out (nv j _ e1)]; exact f1) (by rw [wipe_out (nv k _ e2)]; exact f2)⟩
  | w :: ws, sub, nv => by
    have ih := SR.unwipe sr sr1 s ws (fun x h => sub x (List.mem_cons_of_mem _ h)) nv
    unfold VE.unwipe
    cases q : ρ1[w]? with
    | none => exact ih.drop w
    | some x =>
      cases x with
      | none => exact ih.drop w
      | some x =>
        cases x with
        | val d =>
          obtain ⟨v, e1, h⟩ := sr1.slot w _ q
          have z := ih.setVal (i := w) (Rep.same s h)
          have e2 : σ.set w (some v) = σ := by
            apply List.ext_getElem?
            intro j
            by_cases e : w = j
            · subst e
              have lt := (List.getElem?_eq_some_iff.mp e1).1
              rw [List.getElem?_set_self lt, e1]
            · rw [List.getElem?_set_ne e]
          rw [e2] at z
          exact z
        | own o => exact ih.drop w
        | par o => exact ih.drop w
theorem off_wipe {vs : List Nat} {σ σ' : L2.St} (o : Off vs σ σ') : L2.wipe σ' vs = L2.wipe σ vs := by
  apply List.ext_getElem?
  intro j
  by_cases m : j ∈ vs
  · have lr : ∀ τ : L2.St, j < τ.length → (L2.wipe τ vs)[j]? = some none := fun τ lt => by
      have l2 : j < (L2.wipe τ vs).length := by rw [wipe_length]; exact lt
      cases q : (L2.wipe τ vs)[j]? with
      | none => rw [List.getElem?_eq_none_iff] at q; omega
      | some x =>
        cases x with
        | none => rfl
        | some x => exact absurd m (wipe_some q).2
    by_cases lt : j < σ.length
    · rw [lr σ lt, lr σ' (by rw [o.1]; exact lt)]
    · rw [List.getElem?_eq_none (by rw [wipe_length, o.1]; omega), List.getElem?_eq_none (by rw [wipe_length]; omega)]
  · rw [wipe_out m, wipe_out m, o.2 j m]
theorem wipe_wipe (σ : L2.St) (vs : List Nat) : L2.wipe (L2.wipe σ vs) vs = L2.wipe σ vs := off_wipe ⟨wipe_length _ _, fun j n => wipe_out n⟩
/-- an object of ours that no slot holds is set aside, and stays -/
theorem SR.aside {a : Addr} {u : HO} (sr : SR K mg B F σ H ρ) (hb : B.H a = none) (hf : F a = none) (ha : H a = some u) (no : ∀ (i : Nat) (o' : Ob), ρ[i]? = some (some (.own o')) → σ[i]? ≠ some (some (.ref a))) :
    SR K mg ⟨B.F, upd B.H a u, B.par⟩ F σ H ρ where
  len := sr.len
  same := sr.same
  ent := sr.ent
  away := fun b h f => by
    by_cases e : b = a
    · subst e; exact hf
    · have h : Nt (upd B.H a u b) := h
      rw [upd_ne e] at h
      exact sr.away b h f
  keep := fun b w e p => by
    by_cases z : b = a
    · subst z
      have e : upd B.H b u b = some w := e
      rw [upd_same] at e
      cases e
      exact ha
    · have e : upd B.H a u b = some w := e
      rw [upd_ne z] at e
      exact sr.keep b w e p
  pth := fun i b p => by
    obtain ⟨h1, h2, h3⟩ := sr.pth i b p
    refine ⟨?_, h2, h3⟩
    show upd B.H a u b ≠ none
    exact fun z => h1 (by rw [upd_ne (by rintro rfl; exact h1 hb)] at z; exact z)
  pinj := sr.pinj
  slot := fun i s e => by
    obtain ⟨v, e1, h⟩ := sr.slot i s e
    refine ⟨v, e1, ?_⟩
    cases s with
    | val d => exact h
    | own o =>
      obtain ⟨b, w, rfl, q1, q2⟩ := h
      exact ⟨b, w, rfl, upd_off (by rintro rfl; exact no i o e e1) q1, q2⟩
    | par o => exact h
  sep := sr.sep
theorem SR.back {a : Addr} {u : HO} {F0 : Hp} {σ0 : L2.St} {H0 : Hp} {ρ0 : Rho} (sr0 : SR K mg B F0 σ0 H0 ρ0) (hb : B.H a = none) (nf : B.F a = none) (sr : SR K mg ⟨B.F, upd B.H a u, B.par⟩ F σ H ρ) (nu : Nt (some u) := by exact True.intro) :
    SR K mg B F σ H ρ ∧ H a = some u ∧ F a = none ∧ ∀ (i : Nat) (o' : Ob), ρ[i]? = some (some (.own o')) → σ[i]? ≠ some (some (.ref a)) := by
  have np : ∀ i, B.par i ≠ some a := fun i z => (sr0.pth i a z).1 hb
  have ea : (upd B.H a u) a = some u := upd_same
  refine ⟨⟨sr.len, sr.same, sr.ent, fun b h f => ?_, fun b w e p => ?_, fun i b p => ?_, sr.pinj, fun i s e => ?_, sr.sep⟩, sr.keep a u ea np, sr.away a (by show Nt (upd B.H a u a); rw [ea]; exact nu) nf, fun i o e e2 => ?_⟩
  · refine sr.away b ?_ f
    show Nt (upd B.H a u b)
    rw [upd_ne (by rintro rfl; exact h.ne hb)]
    exact h
  · refine sr.keep b w ?_ p
    show upd B.H a u b = some w
    rw [upd_ne (by rintro rfl; rw [hb] at e; cases e)]
    exact e
  · exact ⟨(sr0.pth i b p).1, (sr.pth i b p).2⟩
  · obtain ⟨v, e1, h⟩ := sr.slot i s e
    refine ⟨v, e1, ?_⟩
    cases s with
    | val d => exact h
    | own o =>
      obtain ⟨b, w, rfl, q1, q2⟩ := h
      have q1 : upd B.H a u b = none := q1
      refine ⟨b, w, rfl, ?_, q2⟩
      by_cases z : b = a
      · subst z; exact hb
      · rw [upd_ne z] at q1; exact q1
    | par o => exact h
  · obtain ⟨v, e1, b, w, rfl, q1, q2⟩ := sr.slot i _ e
    rw [e1] at e2
    cases e2
    have q1 : upd B.H a u a = none := q1
    rw [ea] at q1
    cases q1
/-- such an object changes -/
theorem SR.chg {a : Addr} {u w : HO} (sr : SR K mg B F σ H ρ) (hb : B.H a = none) (hf : F a = none) (ha : H a = some u) (no : ∀ (i : Nat) (o' : Ob), ρ[i]? = some (some (.own o')) → σ[i]? ≠ some (some (.ref a))) : SR K mg B F σ (upd H a w) ρ where
  len := sr.len
  same := fun b x e => by
    rw [upd_ne (by rintro rfl; rw [hf] at e; cases e)]
    exact sr.same b x e
  ent := sr.ent
  away := sr.away
  keep := fun b x e p => by
    rw [upd_ne (by rintro rfl; rw [hb] at e; cases e)]
    exact sr.keep b x e p
  pth := fun i b p => by
    obtain ⟨h1, h2, h3⟩ := sr.pth i b p
    refine ⟨h1, h2, ?_⟩
    rw [upd_ne (by rintro rfl; exact h1 hb)]
    exact h3
  pinj := sr.pinj
  slot := fun i s e => by
    obtain ⟨v, e1, h⟩ := sr.slot i s e
    refine ⟨v, e1, ?_⟩
    cases s with
    | val d => exact h
    | own o =>
      obtain ⟨b, x, rfl, q1, q2, q3, q4⟩ := h
      exact ⟨b, x, rfl, q1, q2, upd_off (by rintro rfl; exact no i o e e1) q3, q4⟩
    | par o =>
      obtain ⟨b, x, rfl, q1, q2, q3, q4⟩ := h
      exact ⟨b, x, rfl, q1, q2, upd_off (by rintro rfl; exact (sr.pth i b q1).1 hb) q3, q4⟩
  sep := sr.sep
end
end VE

namespace VE
open PySem PySem.Spec PyProof.Rows L2 G0
section
variable {K : PySem.W.Frag} {mg : Mg} {W : WX} {B : Bs} {F F1 H H1 : Hp} {σ : L2.St} {ρ ρ1 : Rho} {vs : List Nat}
/-- where a comprehension stands ahead of a turn -/
def LcAt (K : PySem.W.Frag) (mg : Mg) (B : Bs) (F1 : Hp) (σ : L2.St) (vs : List Nat) (L : Addr) (k : List D → Rho → Prop) (n : Nat) (m : M (List D)) (H : Hp) : Prop :=
  ∃ F2 ρ2 acc dacc, SR K mg B F2 (L2.wipe σ vs) H ρ2 ∧ Same F1 F2 ∧ H L = some (.lst acc) ∧ F2 L = none ∧ Reps K mg F2 acc dacc ∧ acc.length ≤ n ∧ (∀ (i : Nat) (o' : Ob), ρ2[i]? = some (some (.own o')) → (L2.wipe σ vs)[i]? ≠ some (some (.ref L))) ∧
    (∀ j s, ρ2[j]? = some (some s) → j ∉ vs) ∧ outcG (m ρ2) fun l ρ' => k (dacc ++ l) ρ'
theorem wipeE_nv {j : Nat} {s : Slot} (h : (wipeE ρ vs)[j]? = some (some s)) : j ∉ vs := (wipeE_some h).2
/-- one turn of a comprehension -/
theorem lc_turn {X : Cx} {is : List Nat} {g : RV → M Unit} {t : M Bool} {e : M RV} {L : Addr} {k : List D → Rho → Prop} {n : Nat} {d : D} {rest : M (List D)} {H2 H3 : Hp} {x : V} {N : Hp → Prop}
    (sr1 : SR X.K X.mg B F1 σ H1 ρ1) (hL : H1 L = none) (his : ∀ i ∈ is, i ∈ vs) (at_ : LcAt X.K X.mg B F1 σ vs L k n (M.bind (noexc (turn g t e d)) fun o => fun ρ => M.bind rest (fun l => M.ret (o.toList ++ l)) (wipeE ρ vs)) H2)
    (it : ∀ F2, Same F1 F2 → Same F2 H2 → ∃ F3, NewG X.K X.mg F2 H2 F3 H3 x (.val d)) (hn : n < sizeLine)
    (nx : ∀ H, LcAt X.K X.mg B F1 σ vs L k (n + 1) rest H → N H) :
    tVG X.K X.mg is g x (L2.wipe σ vs) H3 fun σ2 H2 => L2.wipe σ2 vs = L2.wipe σ vs ∧ tVT X.K X.mg (fun _ _ _ _ => False) t σ2 H2 fun b H3 =>
      if b = true then tV X.K X.mg (fun _ _ _ _ => False) e σ2 H3 fun y H4 => ∃ acc, H4 L = some (.lst acc) ∧ acc.length < sizeLine ∧ N (upd H4 L (.lst (acc ++ [y]))) else N H3 := by
  obtain ⟨F2, ρ2, acc, dacc, sr2, s2, hl, fl, ra, la, no, nv, h⟩ := at_
  obtain ⟨F3, nn⟩ := it F2 s2 sr2.same
  obtain ⟨sr3, rv3⟩ := nn.sr sr2
  have bl : B.H L = none := sr1.fresh hL
  have bf : B.F L = none := sr1.ent.free (sr1.same.free hL)
  have hl3 := nn.sH _ _ hl
  have fl3 := nn.aw L (by rw [hl]; exact True.intro) fl
  have sr4 := sr3.aside bl fl3 hl3 no
  have h := noexc_run (outcG.bind h)
  unfold turn at h
  refine ⟨_, F3, ρ2, .val d, sr4, rv3, (outcG.bind h).imp fun _ ρ3 h σ3 H4 F4 off sr5 s5 => ⟨?_, ?_⟩⟩
  · have e1 := off_wipe (vs := vs) ⟨off.1, fun j m => off.2 j fun z => m (his j z)⟩
    rw [e1, wipe_wipe]
  have wz : L2.wipe σ3 vs = L2.wipe σ vs := by
    have e1 := off_wipe (vs := vs) ⟨off.1, fun j m => off.2 j fun z => m (his j z)⟩
    rw [e1, wipe_wipe]
  refine ⟨_, F4, ρ3, sr5, (outcG.bind h).out.imp fun b ρ4 h H5 F5 sr6 s6 => ?_⟩
  cases b with
  | false =>
    rw [if_neg (by decide)] at h
    refine iteF (nx H5 ?_)
    obtain ⟨sr7, hl7, fl7, no7⟩ := SR.back sr1 bl bf sr6
    have sr8 := sr7.wipe vs
    rw [wz] at sr8
    have h : outcG (M.bind rest (fun l => M.ret ((none : Option D).toList ++ l)) (wipeE ρ4 vs)) _ := h
    refine ⟨F5, wipeE ρ4 vs, acc, dacc, sr8, ((s2.trans nn.sF).trans s5).trans s6, hl7, fl7, ((ra.same nn.sF).same s5).same s6, Nat.le_succ_of_le la, fun i o e1 e2 => ?_, fun j s e => wipeE_nv e, (outcG.bind h).imp fun l ρ' h => h⟩
    rw [← wz] at e2
    exact no7 i o (wipeE_some e1).1 (wipe_some e2).1
  | true =>
    rw [if_pos rfl] at h
    refine iteT ⟨_, F5, ρ4, sr6, (outcG.bind h).out.imp fun r ρ5 h y H6 F6 sr7 s7 rv7 => ?_⟩
    obtain ⟨sr8, hl8, fl8, no8⟩ := SR.back sr1 bl bf sr7
    refine ⟨acc, hl8, Nat.lt_of_le_of_lt la hn, nx _ ?_⟩
    -- the item stays from now on
    have one : ∃ dy F7 ρ7, SR X.K X.mg B F7 σ3 H6 ρ7 ∧ Same F6 F7 ∧ Rep X.K X.mg F7 y dy ∧ F7 L = none ∧ (∀ (i : Nat) (o' : Ob), ρ7[i]? = some (some (.own o')) → σ3[i]? ≠ some (some (.ref L))) ∧ outcG (M.bind rest (fun l => M.ret ((some dy).toList ++ l)) (wipeE ρ7 vs)) fun l ρ' => k (dacc ++ l) ρ' := by
      obtain ⟨dy, F7, ρ7, sr9, s9, rep, h⟩ := set1_run (W := fun _ _ _ _ => False) (F0 := F6) sr7 rv7 (outcG.bind h).out
      obtain ⟨sr10, hl10, fl10, no10⟩ := SR.back sr1 bl bf sr9
      exact ⟨dy, F7, ρ7, sr10, s9, rep, fl10, no10, h⟩
    obtain ⟨dy, F7, ρ7, sr9, s9, rep, fl9, no9, h⟩ := one
    have sr10 := (sr9.chg (w := .lst (acc ++ [y])) bl fl9 hl8 no9).wipe vs
    rw [wz] at sr10
    refine ⟨F7, wipeE ρ7 vs, acc ++ [y], dacc ++ [dy], sr10, ((((s2.trans nn.sF).trans s5).trans s6).trans s7).trans s9, upd_same, fl9, ((((((ra.same nn.sF).same s5).same s6).same s7).same s9).append (.cons rep .nil)), by rw [List.length_append]; exact Nat.succ_le_succ la, fun i o e1 e2 => ?_, fun j s e => wipeE_nv e, (outcG.bind h).imp fun l ρ' h => ?_⟩
    · rw [← wz] at e2
      exact no9 i o (wipeE_some e1).1 (wipe_some e2).1
    · rw [List.append_assoc]
      exact h
/-- the whole of it -/
theorem lc_all {X : Cx} {is : List Nat} {g : RV → M Unit} {t : M Bool} {e : M RV} {J : It} {ds : List D} {k : List D → Rho → Prop} {Q : VK} (sr1 : SR X.K X.mg B F1 σ H1 ρ1) (his : ∀ i ∈ is, i ∈ vs) (io : ItOk X.K X.mg F1 J ds)
    (h : outcG (lcL g t e vs ds (wipeE ρ1 vs)) k) (fin : ∀ L H F2 ρ2 acc dacc, SR X.K X.mg B F2 (L2.wipe σ vs) H ρ2 → Same F1 F2 → H L = some (.lst acc) → B.H L = none → F2 L = none → Reps X.K X.mg F2 acc dacc → acc.length ≤ sizeLine →
      (∀ (i : Nat) (o' : Ob), ρ2[i]? = some (some (.own o')) → (L2.wipe σ vs)[i]? ≠ some (some (.ref L))) → (∀ j s, ρ2[j]? = some (some s) → j ∉ vs) → k dacc ρ2 → Q (.ref L) H) (L : Addr) (hL : H1 L = none) :
    ∃ Wt : Nat → Nat → Hp → Prop, (∃ m, Wt 0 m (upd H1 L (.lst []))) ∧ ∀ i m H, Wt i m H →
      (J.stop i H ∧ Q (.ref L) H) ∨ (J.go i H ∧ ∃ Nx : Hp → Prop, (∀ H', Nx H' → ∃ m', m' < m ∧ Wt (i + 1) m' H') ∧ ∀ x H', J.yld i H x H' → tVG X.K X.mg is g x (L2.wipe σ vs) H' fun σ2 H2 => L2.wipe σ2 vs = L2.wipe σ vs ∧ tVT X.K X.mg (fun _ _ _ _ => False) t σ2 H2 fun b H3 =>
        if b = true then tV X.K X.mg (fun _ _ _ _ => False) e σ2 H3 fun y H4 => ∃ acc, H4 L = some (.lst acc) ∧ acc.length < sizeLine ∧ Nx (upd H4 L (.lst (acc ++ [y]))) else Nx H3) := by
  obtain ⟨G, Y, wk, gh, zl, it⟩ := io
  refine lc_it wk (fun i H => LcAt X.K X.mg B F1 σ vs L k i (lcL g t e vs (ds.drop i)) H) ?_ (fun i H _ ⟨F2, ρ2, acc, dacc, sr2, s2, _⟩ => gh H (s2.trans sr2.same)) ?_ ?_
  · refine ⟨F1, wipeE ρ1 vs, [], [], (sr1.new hL).wipe vs, Same.refl _, upd_same, sr1.same.free hL, .nil, Nat.le_refl _, fun i o e1 e2 => ?_, fun j s e => wipeE_nv e, h⟩
    obtain ⟨v, e3, a, u, rfl, _, _, q, _⟩ := sr1.slot i _ (wipeE_some e1).1
    rw [(wipe_some e2).1] at e3
    cases e3
    rw [hL] at q
    cases q
  · intro i x H2 H3 hi at_ y
    obtain ⟨d, hd⟩ : ∃ d, ds[i]? = some d := ⟨ds[i], by simp [hi]⟩
    have e1 : ds.drop i = d :: ds.drop (i + 1) := by
      rw [List.getElem?_eq_some_iff] at hd
      obtain ⟨_, hd⟩ := hd
      rw [List.drop_eq_getElem_cons hi, hd]
    rw [e1] at at_
    exact lc_turn sr1 hL his at_ (fun F2 s2 s3 => it i d hd H2 x H3 y F2 s2 s3) (Nat.lt_of_lt_of_le hi zl) fun H p => p
  · rintro H ⟨F2, ρ2, acc, dacc, sr2, s2, hl, fl, ra, la, no, nv, h⟩
    rw [List.drop_length] at h
    have h : k (dacc ++ []) ρ2 := h
    rw [List.append_nil] at h
    exact fin L H F2 ρ2 acc dacc sr2 s2 hl (sr1.fresh hL) fl ra (Nat.le_trans la zl) no nv h
end
theorem _root_.L2.PTs.imp {X : Cx} {e : List Expr} {t t' : TT} (h : PTs X e t) (i : ∀ σ H Q, t' σ H Q → t σ H Q) : PTs X e t' := ⟨fun pins s σ H Q I q => h.run pins s σ H Q I (i σ H Q q)⟩
section
variable {X : Cx}
theorem vts_nil : VTs X [] tt1 := ⟨fun W tk => pts_nil.imp fun σ H Q ⟨B, F, ρ, sr, h⟩ => h H F sr (Same.refl _)⟩
theorem vts_one {c : Expr} {t : M Bool} (h : VT X c t) : VTs X [c] t := ⟨fun W tk => pts_one (h.run W tk)⟩
/-- the context of a comprehension's block -/
abbrev bk (X : Cx) (scope : Scope) (s : Shared) (H : Hp) (C : Addr) (cl : List (Str × Addr)) (fp : List Addr) : Cx := X.blk s H scope (compEnvC scope cl C X.env) fp
variable {elt tg iter : Expr} {ifs : List Expr} {scope : Scope} {own : List (Str × Nat)} {pos spos : Pos} {f : M (List D)} {g : RV → M Unit} {t : M Bool} {e : M RV} {is : List Nat}
theorem lc_read {K : PySem.W.Frag} {mg : Mg} {W : WX} {B : Bs} {F0 F1 H1 : Hp} {σ : L2.St} {ρ1 : Rho} {vs : List Nat} {ds : List D} {Q : VK} (sr1 : SR K mg B F1 σ H1 ρ1) (s0 : Same F0 F1)
    (h : outcome K mg W B F0 σ ((match lcL g t e vs ds (wipeE ρ1 vs) with
      | .ok l ρ => (.ok (.own (.lst l)) (unwipe ρ1 ρ vs) : Res RV)
      | _ => .bad)) fun r ρ' => ∀ v H' F', SR K mg B F' σ H' ρ' → Same F0 F' → RVR K mg B F' H' σ ρ' v r → Q v H') :
    outcG (lcL g t e vs ds (wipeE ρ1 vs)) fun l ρ => ∀ L H F2 acc, SR K mg B F2 (L2.wipe σ vs) H ρ → Same F1 F2 → H L = some (.lst acc) → B.H L = none → F2 L = none → Reps K mg F2 acc l → acc.length ≤ sizeLine → (∀ (i : Nat) (o' : Ob), ρ[i]? = some (some (.own o')) → (L2.wipe σ vs)[i]? ≠ some (some (.ref L))) → (∀ j s, ρ[j]? = some (some s) → j ∉ vs) → Q (.ref L) H := by
  cases q : lcL g t e vs ds (wipeE ρ1 vs) with
  | bad => rw [q] at h; exact h.elim
  | exc C fs ρ' => rw [q] at h; exact h.elim
  | ok l ρ =>
    rw [q] at h
    intro L H F2 acc sr2 s2 hl bl fl ra la no nv
    have sr3 := SR.unwipe sr2 sr1 s2 vs (fun _ h => h) nv
    refine h (.ref L) H F2 sr3 (s0.trans s2) ⟨L, _, rfl, bl, fl, hl, .lst la ra, fun i o' e1 e2 => ?_⟩
    have key : ∀ ws : List Nat, (unwipe ρ1 ρ ws)[i]? = some (some (.own o')) → ρ[i]? = some (some (.own o')) := by
      intro ws
      induction ws with
      | nil => exact fun z => z
      | cons w ws ih =>
        intro z
        unfold unwipe at z
        rcases get_set z with ⟨_, z⟩ | ⟨_, z⟩
        · split at z <;> cases z
        · exact ih z
    have e3 := key vs e1
    exact no i o' e3 (by rw [wipe_out (nv i _ e3)]; exact e2)
theorem ve_lc (hc : X.calm = true) (hN : X.N.Nodup) (hi : VI X tg iter f) (ok : BlkOk X.N X.env.scope scope own) (his : ∀ i ∈ is, i ∈ own.map (·.2))
    (hg : ∀ s H C cl fp, VG (bk X scope s H C cl fp) tg is g) (ht : ∀ s H C cl fp, VTs (bk X scope s H C cl fp) ifs t) (he : ∀ s H C cl fp, VE (bk X scope s H C cl fp) elt e)
    (hs : ∀ x, foldedSetIterable iter X.env x = pure x := by intro _; rfl) : VE X (.ListComp elt [⟨tg, iter, ifs, 0⟩] scope pos) (mLC f g t e (own.map (·.2))) := by
  refine ⟨fun W tk => (pe_lc (g := tVG X.K X.mg is g) (tt := tVT X.K X.mg (fun _ _ _ _ => False) t) (te := tV X.K X.mg (fun _ _ _ _ => False) e) hc hN (hi.run W tk) ok (fun s H C cl fp => (hg s H C cl fp).run) (fun s H C cl fp => (ht s H C cl fp).run _ takes0) (fun s H C cl fp => (he s H C cl fp).run _ takes0) hs).imp fun σ H Q ⟨B, F, ρ, sr, h⟩ => ?_⟩
  refine ⟨B, F, ρ, sr, h.bind.imp fun ds ρ1 h J H1 F1 sr1 s1 io => ?_⟩
  intro L hL
  exact lc_all sr1 his io (lc_read sr1 s1 h) (fun L H F2 ρ2 acc dacc sr2 s2 hl bl fl ra la no nv k => k L H F2 acc sr2 s2 hl bl fl ra la no nv) L hL
theorem vs_setLc {i : Nat} {y : Str} {py : Pos} (hc : X.calm = true) (hN : X.N.Nodup) (hy : X.N[i]? = some y) (hyl : X.env.scope.names.lookup y = some .local)
    (hsw : swapsWith (.ListComp elt [⟨tg, iter, ifs, 0⟩] scope pos) (some (.Name y py)) spos.line X.env = pure true) (hi : VI X tg iter f) (ok : BlkOk X.N X.env.scope scope own) (his : ∀ i ∈ is, i ∈ own.map (·.2))
    (hg : ∀ s H C cl fp, VG (bk X scope s H C cl fp) tg is g) (ht : ∀ s H C cl fp, VTs (bk X scope s H C cl fp) ifs t) (he : ∀ s H C cl fp, VE (bk X scope s H C cl fp) elt e)
    (hs : ∀ x, foldedSetIterable iter X.env x = pure x := by intro _; rfl) : VS X (.Assign [.Name y py] (.ListComp elt [⟨tg, iter, ifs, 0⟩] scope pos) spos) (sAsg (mLC f g t e (own.map (·.2))) (gN i)) := by
  refine ⟨fun W tk => (ps_setLc (g := tVG X.K X.mg is g) (tt := tVT X.K X.mg (fun _ _ _ _ => False) t) (te := tV X.K X.mg (fun _ _ _ _ => False) e) hc hN hy hyl hsw (hi.run W tk) ok (fun s H C cl fp => (hg s H C cl fp).run) (fun s H C cl fp => (ht s H C cl fp).run _ takes0) (fun s H C cl fp => (he s H C cl fp).run _ takes0) hs).imp fun σ H De ⟨B, F, ρ, sr, h⟩ => ?_⟩
  refine ⟨B, F, ρ, sr, ((outcS.of (σ := σ) h).bind).imp fun ds ρ1 h J H1 F1 sr1 s1 io => ?_⟩
  intro L hL
  have h2 : outcome X.K X.mg W B F σ ((match lcL g t e (own.map (·.2)) ds (wipeE ρ1 (own.map (·.2))) with
      | .ok l ρ => (.ok (.own (.lst l)) (unwipe ρ1 ρ (own.map (·.2))) : Res RV)
      | _ => .bad)) fun r ρ' => ∀ v H' F', SR X.K X.mg B F' σ H' ρ' → Same F F' → RVR X.K X.mg B F' H' σ ρ' v r → De.nx (σ.set i (some v)) H' := by
    cases q : lcL g t e (own.map (·.2)) ds (wipeE ρ1 (own.map (·.2))) with
    | bad => rw [q] at h; exact h.elim
    | exc C fs ρ' => rw [q] at h; exact h.elim
    | ok l ρ =>
      rw [q] at h
      intro v H' F' sr' s' rv
      exact h _ H' F' (sr'.setOwn rv) s'
  exact lc_all (Q := fun x H1 => De.nx (σ.set i (some x)) H1) sr1 his io (lc_read sr1 s1 h2) (fun L H F2 ρ2 acc dacc sr2 s2 hl bl fl ra la no nv k => k L H F2 acc sr2 s2 hl bl fl ra la no nv) L hL
end
/-! ### what is walked -/
def finI (r : RV) : M (List D) := M.bind (set1 r) fun d => fun ρ => match d with
  | .lst xs => .ok xs ρ
  | .tup xs => .ok xs ρ
  | _ => .bad
def mIt (f : M RV) : M (List D) := M.bind f finI
def finR1 (rs : List RV) : M (List D) := fun ρ => match conts rs ρ with
  | some [.int hi] => if rngOk 0 hi then .ok (rngs 0 hi) ρ else .bad
  | _ => .bad
def finR2 (rs : List RV) : M (List D) := fun ρ => match conts rs ρ with
  | some [.int lo, .int hi] => if rngOk lo hi then .ok (rngs lo hi) ρ else .bad
  | _ => .bad
/-- downwards by ones -/
def rngsD (lo hi : Int) : List D := (List.range' 0 (lo - hi).toNat).map fun i => .int (lo + (i : Nat) * (-1))
abbrev rngOkD (lo hi : Int) : Bool := decide ((-(2 ^ 62) ≤ lo ∧ lo < 2 ^ 62 ∧ -(2 ^ 62) ≤ hi ∧ hi < 2 ^ 62) ∧ (lo - hi).toNat ≤ 1000000)
def finR3 (rs : List RV) : M (List D) := fun ρ => match conts rs ρ with
  | some [.int lo, .int hi, .int c] => if decide (c = -1) && rngOkD lo hi then .ok (rngsD lo hi) ρ else .bad
  | _ => .bad
def mRng1 (f : M (List RV)) : M (List D) := M.bind f finR1
def mRng2 (f : M (List RV)) : M (List D) := M.bind f finR2
def mRng3 (f : M (List RV)) : M (List D) := M.bind f finR3
def enumD : Nat → List D → List D
  | _, [] => []
  | n, d :: ds => .tup [.int (n : Nat), d] :: enumD (n + 1) ds
def seqD : D → Option (List D)
  | .lst xs => some xs
  | .tup xs => some xs
  | _ => none
def finE (rs : List RV) : M (List D) := M.bind (settle rs) fun ds => fun ρ => match ds with
  | [d] => (match seqD d with | some xs => .ok (enumD 0 xs) ρ | none => .bad)
  | _ => .bad
def mEnum (f : M (List RV)) : M (List D) := M.bind f finE
def zipD : List D → List D → List D
  | x :: xs, y :: ys => .tup [x, y] :: zipD xs ys
  | _, _ => []
def finZ (rs : List RV) : M (List D) := M.bind (settle rs) fun ds => fun ρ => match ds with
  | [d, e] => (match seqD d, seqD e with | some xs, some ys => .ok (zipD xs ys) ρ | _, _ => .bad)
  | _ => .bad
def mZip (f : M (List RV)) : M (List D) := M.bind f finZ
section
variable {K : PySem.W.Frag} {mg : Mg} {F H : Hp} {a : Addr} {xs : List V} {ds : List D}
theorem it_seq {b : Bool} {J : It} (wk : Walk J xs.length (fun H => SqK b K H a xs) (YAt xs)) (h : SqK b K F a xs) (z : xs.length ≤ sizeLine) (r : Reps K mg F xs ds) : ItOk K mg F J ds := by
  refine ⟨_, _, r.length ▸ wk, fun H s => h.same s, by rw [← r.length]; exact z, fun i d hd H v H' y F1 s1 s2 => ?_⟩
  obtain ⟨rfl, hv⟩ := y
  obtain ⟨v', hv', rep⟩ := r.getD hd
  rw [hv] at hv'
  cases hv'
  exact ⟨F1, .same s2 (rep.same s1)⟩
theorem it_rng {lo hi : Int} (h : rngOk lo hi = true) : ItOk K mg F (Itr lo (hi - lo).toNat) (rngs lo hi) := by
  have len : (rngs lo hi).length = (hi - lo).toNat := by unfold rngs; rw [List.length_map, List.length_range']
  refine ⟨fun _ => True, YFn fun i => .int (lo + i), by rw [len]; exact walk_range, fun _ _ => trivial, by rw [len]; exact Nat.le_trans (of_decide_eq_true h).2 (by decide), fun i d hd H v H' y F1 s1 s2 => ?_⟩
  obtain ⟨rfl, rfl⟩ := y
  unfold rngs at hd
  rw [List.getElem?_map] at hd
  obtain ⟨j, hj, rfl⟩ := opt_map' hd
  have : j = i := by
    have := List.getElem?_eq_some_iff.mp hj
    obtain ⟨_, q⟩ := this
    rw [List.getElem_range'] at q
    omega
  subst this
  exact ⟨F1, .same s2 (.int _)⟩
theorem enumD_get : ∀ {ds : List D} {n i : Nat} {d : D}, (enumD n ds)[i]? = some d → ∃ e, ds[i]? = some e ∧ d = .tup [.int ((n + i : Nat) : Int), e]
  | [], _, _, _, h => by simp [enumD] at h
  | x :: ds, n, 0, d, h => by
    unfold enumD at h
    simp at h
    exact ⟨x, rfl, by rw [← h]; simp⟩
  | x :: ds, n, i + 1, d, h => by
    unfold enumD at h
    simp at h
    obtain ⟨e, h1, h2⟩ := enumD_get h
    exact ⟨e, by simpa using h1, by rw [h2]; congr 3; omega⟩
theorem enumD_len : ∀ (ds : List D) (n : Nat), (enumD n ds).length = ds.length
  | [], _ => rfl
  | _ :: ds, n => congrArg (· + 1) (enumD_len ds (n + 1))
theorem zipD_len : ∀ (ds es : List D), (zipD ds es).length = min ds.length es.length
  | [], [] => rfl
  | x :: ds, y :: es => by
    show (zipD ds es).length + 1 = min (ds.length + 1) (es.length + 1)
    rw [zipD_len ds es]
    omega
  | [], _ :: _ => by simp [zipD]
  | _ :: _, [] => by simp [zipD]
theorem zipD_get : ∀ {ds es : List D} {i : Nat} {d : D}, (zipD ds es)[i]? = some d → ∃ x y, ds[i]? = some x ∧ es[i]? = some y ∧ d = .tup [x, y]
  | [], _, _, _, h => by simp [zipD] at h
  | _ :: _, [], _, _, h => by simp [zipD] at h
  | x :: ds, y :: es, 0, d, h => by
    simp [zipD] at h
    exact ⟨x, y, rfl, rfl, h.symm⟩
  | x :: ds, y :: es, i + 1, d, h => by
    simp [zipD] at h
    obtain ⟨a, b, h1, h2, h3⟩ := zipD_get h
    exact ⟨a, b, by simpa using h1, by simpa using h2, h3⟩
theorem it_pair {J : It} {n : Nat} {G : Hp → Prop} {xs ys : Nat → Option V} {ds : List D} (wk : Walk J n G (YPair xs ys)) (hn : ds.length = n) (gh : ∀ H, Same F H → G H) (z : n ≤ sizeLine)
    (r : ∀ i d, ds[i]? = some d → ∃ x y, d = .tup [x, y] ∧ (∀ v, xs i = some v → Rep K mg F v x) ∧ (∀ v, ys i = some v → Rep K mg F v y)) : ItOk K mg F J ds := by
  subst hn
  refine ⟨_, _, wk, gh, z, fun i d hd H v H' y F1 s1 s2 => ?_⟩
  obtain ⟨T, x, w, rfl, hT, rfl, h1, h2⟩ := y
  obtain ⟨dx, dy, rfl, r1, r2⟩ := r i d hd
  exact ⟨_, .tup s2 hT (by show 2 ≤ sizeLine; decide) (.cons ((r1 _ h1).same s1) (.cons ((r2 _ h2).same s1) .nil))⟩
end
/-- what is a list or a tuple -/
theorem Rep.seq {K : PySem.W.Frag} {mg : Mg} {F : Hp} {v : V} {d : D} {xs : List D} (h : Rep K mg F v d) (e : seqD d = some xs) : ∃ b a vs, v = .ref a ∧ SqK b K F a vs ∧ vs.length ≤ sizeLine ∧ Reps K mg F vs xs := by
  cases h with
  | lst h z r => cases e; exact ⟨true, _, _, rfl, h.sq, z, r⟩
  | tup h z r => cases e; exact ⟨false, _, _, rfl, h.sq, z, r⟩
  | _ => cases e
section
variable {X : Cx} {tg e e2 : Expr} {es : List Expr} {f : M RV} {fs : M (List RV)} {p pos tpos : Pos} {elts : List Expr} {kk : Nat}
/-- one value settled, its data known -/
theorem set1_known {K : PySem.W.Frag} {mg : Mg} {B : Bs} {F H : Hp} {σ : L2.St} {ρ ρ2 : Rho} {r : RV} {v : V} {d : D} (sr : SR K mg B F σ H ρ) (rv : RVR K mg B F H σ ρ v r) (h : set1 r ρ = .ok d ρ2) : ∃ F', SR K mg B F' σ H ρ2 ∧ Same F F' ∧ Rep K mg F' v d := by
  obtain ⟨d', F', ρ', sr', s', rep, e1, e2⟩ := set1_run (W := fun _ _ _ _ => False) (F0 := F) (k := fun d' ρ' => d' = d ∧ ρ' = ρ2) sr rv (by rw [h]; exact ⟨rfl, rfl⟩)
  subst e1 e2
  exact ⟨F', sr', s', rep⟩
theorem settle_known {K : PySem.W.Frag} {mg : Mg} {B : Bs} {F H : Hp} {σ : L2.St} {ρ ρ2 : Rho} {rs : List RV} {vs : List V} {ds : List D} (sr : SR K mg B F σ H ρ) (rv : RVs K mg F σ vs rs) (h : settle rs ρ = .ok ds ρ2) : ∃ F', SR K mg B F' σ H ρ2 ∧ Same F F' ∧ Reps K mg F' vs ds := by
  obtain ⟨d', F', ρ', sr', s', rep, e1, e2⟩ := settle_run (W := fun _ _ _ _ => False) (F0 := F) (k := fun d' ρ' => d' = ds ∧ ρ' = ρ2) sr rv (Same.refl _) (by rw [h]; exact ⟨rfl, rfl⟩)
  subst e1 e2
  exact ⟨F', sr', s', rep⟩
theorem vi_any (h : VE X e f) : VI X tg e (mIt f) := by
  refine ⟨fun W tk => (pi_any (h.run W tk)).imp fun σ H R ⟨B, F, ρ, sr, h⟩ => ?_⟩
  unfold mIt M.bind at h
  cases q : f ρ with
  | bad => rw [q] at h; exact h.elim
  | exc C fs ρ' => rw [q] at h; exact .inl ⟨B, F, ρ, sr, by rw [q]; exact h⟩
  | ok r ρ1 =>
    rw [q] at h
    dsimp only at h
    unfold finI M.bind at h
    cases q2 : set1 r ρ1 with
    | bad => rw [q2] at h; exact h.elim
    | exc C fs ρ' => exact absurd q2 (set1_calm r ρ1 C fs ρ')
    | ok d ρ2 =>
      rw [q2] at h
      cases d with
      | lst xs =>
        refine .inl ⟨B, F, ρ, sr, ?_⟩
        rw [q]
        intro v H1 F1 sr1 s1 rv
        obtain ⟨F2, sr2, s2, rep⟩ := set1_known sr1 rv q2
        cases rep with
        | lst k z rr => exact ⟨_, rfl, ⟨_, (LstR.same sr2.same k).sq⟩, h _ H1 F2 sr2 (s1.trans s2) (it_seq (b := true) walk_list k.sq z rr)⟩
      | tup xs =>
        refine .inr ⟨B, F, ρ, sr, ?_⟩
        rw [q]
        intro v H1 F1 sr1 s1 rv
        obtain ⟨F2, sr2, s2, rep⟩ := set1_known sr1 rv q2
        cases rep with
        | tup k z rr => exact ⟨_, rfl, ⟨_, same_t sr2.same k.sq⟩, h _ H1 F2 sr2 (s1.trans s2) (it_seq (b := false) walk_tup k.sq z rr)⟩
      | _ => exact h.elim
theorem vi_range1 {a : Expr} (hm : X.mg "range" = none) (ha : VA X [a] fs) (hg : Gl X "range" := by rfl) (hs : starEach [a] X.env = [(false, eval a X.env)] := by rfl) : VI X tg (.Call (.Name "range" p) [a] [] pos) (mRng1 fs) := by
  refine ⟨fun W tk => (pi_range1 hg hm (ha.run W tk) hs).imp fun σ H R ⟨B, F, ρ, sr, h⟩ => ?_⟩
  refine ⟨B, F, ρ, sr, h.bind.imp fun rs ρ1 h vs H1 F1 sr1 s1 rvs => ?_⟩
  unfold finR1 at h
  split at h
  · rename_i hi q
    split at h
    · rename_i ok
      obtain ⟨v, rfl, hv⟩ := (rvs.conts sr1 q).one
      cases hv.int_
      obtain ⟨⟨_, _, z3, z4⟩, z5⟩ := of_decide_eq_true ok
      refine ⟨hi, rfl, z3, z4, h _ H1 F1 sr1 s1 ?_⟩
      have := it_rng (K := X.K) (mg := X.mg) (F := F1) ok
      rw [Int.sub_zero] at this
      exact this
    · exact h.elim
  · exact h.elim
theorem vi_range2 {a b : Expr} (hm : X.mg "range" = none) (ha : VA X [a, b] fs) (hg : Gl X "range" := by rfl) (hs : starEach [a, b] X.env = [(false, eval a X.env), (false, eval b X.env)] := by rfl) (hs2 : starEach [b] X.env = [(false, eval b X.env)] := by rfl) : VI X tg (.Call (.Name "range" p) [a, b] [] pos) (mRng2 fs) := by
  refine ⟨fun W tk => (pi_range2 hg hm (ha.run W tk) hs hs2).imp fun σ H R ⟨B, F, ρ, sr, h⟩ => ?_⟩
  refine ⟨B, F, ρ, sr, h.bind.imp fun rs ρ1 h vs H1 F1 sr1 s1 rvs => ?_⟩
  unfold finR2 at h
  split at h
  · rename_i lo hi q
    split at h
    · rename_i ok
      obtain ⟨v, w, rfl, h1, h2⟩ := (rvs.conts sr1 q).two
      cases h1.int_
      cases h2.int_
      obtain ⟨z4, z5⟩ := of_decide_eq_true ok
      exact ⟨lo, hi, rfl, z4, h _ H1 F1 sr1 s1 (it_rng ok)⟩
    · exact h.elim
  · exact h.elim
theorem it_rngD {K : PySem.W.Frag} {mg : Mg} {F : Hp} {lo hi : Int} (h : rngOkD lo hi = true) : ItOk K mg F (Itc lo (-1) (lo - hi).toNat) (rngsD lo hi) := by
  have len : (rngsD lo hi).length = (lo - hi).toNat := by unfold rngsD; rw [List.length_map, List.length_range']
  refine ⟨fun _ => True, YFn fun i => .int (lo + (i : Nat) * (-1)), by rw [len]; exact walk_rangeC, fun _ _ => trivial, by rw [len]; exact Nat.le_trans (of_decide_eq_true h).2 (by decide), fun i d hd H v H' y F1 s1 s2 => ?_⟩
  obtain ⟨rfl, rfl⟩ := y
  unfold rngsD at hd
  rw [List.getElem?_map] at hd
  obtain ⟨j, hj, rfl⟩ := opt_map' hd
  have : j = i := by
    have := List.getElem?_eq_some_iff.mp hj
    obtain ⟨_, q⟩ := this
    rw [List.getElem_range'] at q
    omega
  subst this
  exact ⟨F1, .same s2 (.int _)⟩
theorem vi_range3 {a b c : Expr} (hm : X.mg "range" = none) (ha : VA X [a, b, c] fs) (hg : Gl X "range" := by rfl) (hs : starEach [a, b, c] X.env = (false, eval a X.env) :: starEach [b, c] X.env := by rfl) (hpl : (backTo pos (starEach [b, c] X.env)).any (·.1) = false := by rfl) : VI X tg (.Call (.Name "range" p) [a, b, c] [] pos) (mRng3 fs) := by
  refine ⟨fun W tk => (pi_range3 hg hm (ha.run W tk) hs hpl).imp fun σ H R ⟨B, F, ρ, sr, h⟩ => ?_⟩
  refine ⟨B, F, ρ, sr, h.bind.imp fun rs ρ1 h vs H1 F1 sr1 s1 rvs => ?_⟩
  unfold finR3 at h
  split at h
  · rename_i lo hi c q
    split at h
    · rename_i ok
      rw [Bool.and_eq_true, decide_eq_true_eq] at ok
      obtain ⟨rfl, ok⟩ := ok
      cases (rvs.conts sr1 q) with
      | cons h1 t =>
        obtain ⟨v, w, rfl, h2, h3⟩ := t.two
        cases h1.int_
        cases h2.int_
        cases h3.int_
        obtain ⟨z4, z5⟩ := of_decide_eq_true ok
        exact ⟨lo, hi, -1, _, rfl, RgC.neg z4.1 z4.2.1 z4.2.2.1 z4.2.2.2, h _ H1 F1 sr1 s1 (it_rngD ok)⟩
    · exact h.elim
  · exact h.elim
theorem vi_enum {a : Expr} (hm : X.mg "enumerate" = none) (ha : VA X [a] fs) (hg : Gl X "enumerate" := by rfl) (hs : starEach [a] X.env = [(false, eval a X.env)] := by rfl) : VI X (.Tuple elts kk tpos) (.Call (.Name "enumerate" p) [a] [] pos) (mEnum fs) := by
  refine ⟨fun W tk => ⟨fun pins s σ H R I h => ?_⟩⟩
  obtain ⟨B, F, ρ, sr, h⟩ := h
  unfold mEnum M.bind at h
  cases q : fs ρ with
  | bad => rw [q] at h; exact h.elim
  | exc C fs' ρ' => rw [q] at h; exact (pi_E true hg hm (ha.run W tk) hs).run pins s σ H R I ⟨B, F, ρ, sr, by rw [q]; exact h⟩
  | ok rs ρ1 =>
    rw [q] at h
    dsimp only at h
    unfold finE M.bind at h
    cases q2 : settle rs ρ1 with
    | bad => rw [q2] at h; exact h.elim
    | exc C fs' ρ' => exact absurd q2 (settle_calm rs ρ1 C fs' ρ')
    | ok ds ρ2 =>
      rw [q2] at h
      dsimp only at h
      split at h
      · rename_i d
        have go : ∀ b : Bool, (∀ v (F' : Hp), Rep X.K X.mg F' v d → ∃ a vs xs, seqD d = some xs ∧ v = .ref a ∧ SqK b X.K F' a vs ∧ vs.length ≤ sizeLine ∧ Reps X.K X.mg F' vs xs) → wpAny (model X.prog X.w) X.A (eval (.Call (.Name "enumerate" p) [a] [] pos) X.env) (fun v s1 => wpAny (model X.prog X.w) X.A (pyIter v) (PIE X pins σ (.Tuple elts kk tpos) R) X.xe s1) X.xe s := by
          intro b kd
          refine (pi_E b hg hm (ha.run W tk) hs).run pins s σ H R I ⟨B, F, ρ, sr, ?_⟩
          rw [q]
          intro vs H1 F1 sr1 s1 rvs
          obtain ⟨F2, sr2, s2, reps⟩ := settle_known sr1 rvs q2
          cases reps with
          | cons r1 r2 =>
            cases r2
            obtain ⟨a, ws, xs, e1, rfl, k, z, rr⟩ := kd _ _ r1
            rw [e1] at h
            refine ⟨a, ws, rfl, k.same sr2.same, h _ H1 F2 sr2 (s1.trans s2) (it_pair walk_E (by rw [enumD_len, rr.length]) (fun H s => k.same s) z fun i d hd => ?_)⟩
            obtain ⟨e, he, rfl⟩ := enumD_get hd
            obtain ⟨w, hw, rep⟩ := rr.getD he
            refine ⟨_, _, rfl, fun v hv => ?_, fun v hv => ?_⟩
            · cases hv
              rw [Nat.zero_add]
              exact .int _
            · rw [hw] at hv
              cases hv
              exact rep
        cases d with
        | lst xs => exact go true fun v F' r => by cases r with | lst k z rr => exact ⟨_, _, xs, rfl, rfl, k.sq, z, rr⟩
        | tup xs => exact go false fun v F' r => by cases r with | tup k z rr => exact ⟨_, _, xs, rfl, rfl, k.sq, z, rr⟩
        | _ => exact h.elim
      · exact h.elim
theorem vi_zip (hm : X.mg "zip" = none) (ha : VA X [e, e2] fs) (hg : Gl X "zip" := by rfl) (hs : starEach [e, e2] X.env = (false, eval e X.env) :: starEach [e2] X.env := by rfl) (hpl : (backTo pos (starEach [e2] X.env)).any (·.1) = false := by rfl) : VI X (.Tuple elts kk tpos) (.Call (.Name "zip" p) [e, e2] [] pos) (mZip fs) := by
  refine ⟨fun W tk => ⟨fun pins s σ H R I h => ?_⟩⟩
  obtain ⟨B, F, ρ, sr, h⟩ := h
  unfold mZip M.bind at h
  cases q : fs ρ with
  | bad => rw [q] at h; exact h.elim
  | exc C fs' ρ' => rw [q] at h; exact (pi_Z true true hg hm (ha.run W tk) hs hpl).run pins s σ H R I ⟨B, F, ρ, sr, by rw [q]; exact h⟩
  | ok rs ρ1 =>
    rw [q] at h
    dsimp only at h
    unfold finZ M.bind at h
    cases q2 : settle rs ρ1 with
    | bad => rw [q2] at h; exact h.elim
    | exc C fs' ρ' => exact absurd q2 (settle_calm rs ρ1 C fs' ρ')
    | ok ds ρ2 =>
      rw [q2] at h
      dsimp only at h
      split at h
      · rename_i d1 d2
        have kind : ∀ d : D, (∃ b, ∀ v (F' : Hp), Rep X.K X.mg F' v d → ∃ a vs xs, seqD d = some xs ∧ v = .ref a ∧ SqK b X.K F' a vs ∧ vs.length ≤ sizeLine ∧ Reps X.K X.mg F' vs xs) ∨ seqD d = none := by
          intro d
          cases d with
          | lst xs => exact .inl ⟨true, fun v F' r => by cases r with | lst k z rr => exact ⟨_, _, xs, rfl, rfl, k.sq, z, rr⟩⟩
          | tup xs => exact .inl ⟨false, fun v F' r => by cases r with | tup k z rr => exact ⟨_, _, xs, rfl, rfl, k.sq, z, rr⟩⟩
          | _ => exact .inr rfl
        rcases kind d1 with ⟨b1, k1⟩ | k1
        · rcases kind d2 with ⟨b2, k2⟩ | k2
          · refine (pi_Z b1 b2 hg hm (ha.run W tk) hs hpl).run pins s σ H R I ⟨B, F, ρ, sr, ?_⟩
            rw [q]
            intro vs H1 F1 sr1 s1 rvs
            obtain ⟨F2, sr2, s2, reps⟩ := settle_known sr1 rvs q2
            cases reps with
            | cons r1 reps =>
              cases reps with
              | cons r2 reps =>
                cases reps
                obtain ⟨a1, w1, x1, e1, rfl, q1, z1, rr1⟩ := k1 _ _ r1
                obtain ⟨a2, w2, x2, e2, rfl, q2, z2, rr2⟩ := k2 _ _ r2
                rw [e1, e2] at h
                refine ⟨a1, a2, w1, w2, rfl, q1.same sr2.same, q2.same sr2.same, h _ H1 F2 sr2 (s1.trans s2) (it_pair (walk_Z rfl) (by rw [zipD_len, rr1.length, rr2.length]) (fun H s => ⟨q1.same s, q2.same s⟩) (Nat.le_trans (Nat.min_le_left _ _) z1) fun i d hd => ?_)⟩
                obtain ⟨x, y, hx, hy, rfl⟩ := zipD_get hd
                obtain ⟨u1, hu1, rep1⟩ := rr1.getD hx
                obtain ⟨u2, hu2, rep2⟩ := rr2.getD hy
                refine ⟨_, _, rfl, fun v hv => ?_, fun v hv => ?_⟩
                · rw [hu1] at hv; cases hv; exact rep1
                · rw [hu2] at hv; cases hv; exact rep2
          · rw [k2] at h
            split at h
            · rename_i z; cases z
            · exact h.elim
        · rw [k1] at h
          exact h.elim
      · exact h.elim
end
end VE

namespace VE
open PySem PySem.Spec PyProof.Rows L2 G0
/-! ### methods that change a slot's object -/
def finM (op : Ob → List D → Option (Ob × D)) (i : Nat) (ds : List D) : M RV := fun ρ => match ρ[i]? with
  | some (some (.own o)) => (match op o ds with
    | some (o', d) => .ok (.val d) (ρ.set i (some (.own o')))
    | none => .bad)
  | some (some (.par o)) => (match op o ds with
    | some (o', d) => .ok (.val d) (ρ.set i (some (.par o')))
    | none => .bad)
  | _ => .bad
/-- the slot holds a list -/
def holdsL (i : Nat) (ρ : Rho) : Bool := match ρ[i]? with
  | some (some (.own (.lst _))) => true
  | some (some (.par (.lst _))) => true
  | _ => false
def mMut (op : Ob → List D → Option (Ob × D)) (i : Nat) (f : M (List RV)) : M RV := fun ρ => if holdsL i ρ then M.bind f (fun rs => M.bind (settle rs) fun ds => finM op i ds) ρ else .bad
def opAppend : Ob → List D → Option (Ob × D)
  | .lst xs, [d] => if decide (xs.length < sizeLine) then some (.lst (xs ++ [d]), .non) else none
  | _, _ => none
def opExtend : Ob → List D → Option (Ob × D)
  | .lst xs, [.lst ys] => if szOk (xs.length + ys.length) then some (.lst (xs ++ ys), .non) else none
  | _, _ => none
def opPop : Ob → List D → Option (Ob × D)
  | .lst xs, [] => (xs[xs.length - 1]?).map fun d => (.lst xs.dropLast, d)
  | _, _ => none
def opPopAt : Ob → List D → Option (Ob × D)
  | .lst xs, [.int i] => if decide (-(2 ^ 63) ≤ i ∧ i < 2 ^ 63) then (ixN xs.length i).bind fun k => (xs[k]?).map fun d => (.lst (xs.eraseIdx k), d) else none
  | _, _ => none
def opClear : Ob → List D → Option (Ob × D)
  | .lst _, [] => some (.lst [], .non)
  | _, _ => none
def rMut (K : PySem.W.Frag) (mg : Mg) (op : Ob → List D → Option (Ob × D)) : V → List V → Hp → VK → Prop := fun x vs H Q => ∃ F a u o ds o' d, x = .ref a ∧ Same F H ∧ F a = none ∧ H a = some u ∧ RepO K mg F o u ∧ Reps K mg F vs ds ∧ op o ds = some (o', d) ∧
  ∀ v u', RepO K mg F o' u' → Rep K mg F v d → Q v (upd H a u')
theorem Reps.one {K : PySem.W.Frag} {mg : Mg} {F : Hp} {vs : List V} {d : D} (h : Reps K mg F vs [d]) : ∃ v, vs = [v] ∧ Rep K mg F v d := by
  cases h with
  | cons h t => cases t; exact ⟨_, rfl, h⟩
theorem Reps.nil_ {K : PySem.W.Frag} {mg : Mg} {F : Hp} {vs : List V} (h : Reps K mg F vs []) : vs = [] := by cases h; rfl
theorem Reps.erase {K : PySem.W.Frag} {mg : Mg} {F : Hp} : ∀ {vs : List V} {ds : List D} (n : Nat), Reps K mg F vs ds → Reps K mg F (vs.eraseIdx n) (ds.eraseIdx n)
  | _, _, _, .nil => .nil
  | _, _, 0, .cons _ r => r
  | _, _, n + 1, .cons h r => .cons h (Reps.erase n r)
theorem Reps.dropLast {K : PySem.W.Frag} {mg : Mg} {F : Hp} : ∀ {vs : List V} {ds : List D}, Reps K mg F vs ds → Reps K mg F vs.dropLast ds.dropLast
  | _, _, .nil => .nil
  | _, _, .cons _ .nil => .nil
  | _, _, .cons h (.cons h2 r) => .cons h (Reps.dropLast (.cons h2 r))
section
variable {X : Cx}
theorem m_append : MtR X "list.append" (rMut X.K X.mg opAppend) := by
  rintro pins s σ H x vs v us Q I rx rv ⟨F, a, u, o, ds, o', d, rfl, sf, fa, ha, ro, rr, e, q⟩
  unfold opAppend at e
  split at e
  · split at e
    · rename_i z
      cases e
      obtain ⟨w, rfl, r1⟩ := rr.one
      cases ro with
      | lst zl rs =>
        have z : _ < sizeLine := of_decide_eq_true z
        refine mt_append pins s σ H _ _ v us Q I rx rv ⟨a, _, w, rfl, rfl, ha, by rw [rs.length]; exact z, q _ _ (.lst ?_ (rs.append (.cons r1 .nil))) .non⟩
        rw [List.length_append, rs.length]
        exact z
    · cases e
  · cases e
theorem ext_rd : MtR X "list.extend" (fun x vs H Q => ∃ l b xs zs, x = .ref l ∧ vs = [.ref b] ∧ H l = some (.lst xs) ∧ LstR X.K H b zs ∧ xs.length + zs.length ≤ sizeLine ∧ Q .non (upd H l (.lst (xs ++ zs)))) := by
  intro pins s σ H x vs v us Q I rx rv h
  obtain ⟨l, b, xs, zs, rfl, rfl, hH, hB, hz, q⟩ := h
  cases rx
  obtain ⟨u, rfl, ru⟩ := rv.one
  cases ru
  obtain ⟨z, its, n, r, hl, e⟩ := I.lstM hH
  obtain ⟨z2, its2, n2, r2, hl2, e2⟩ := rd_list I hB
  have hsz : its.toArray.size + its2.toArray.size ≤ sizeLine := by rw [List.size_toArray, List.size_toArray]; omega
  have hlong : ¬ (!its.toArray.isEmpty && Builtin.List.listTooLong (its.toArray.size + its2.toArray.size)) = true := by
    rw [notLongL hsz, Bool.and_false]
    exact Bool.false_ne_true
  refine call_meets F.slot_list_extend ⟨_, e, rfl⟩ F.entry_list_extend (F.args_list_extend_2 _ _)
    (AutoSeq1.list_extend_list_list_0 l its.toArray n b its2.toArray n2 hlong (by rw [List.size_toArray]; omega) (by omega)) ⟨e, e2, ?_⟩
  refine ⟨.non, _, I.lset (its' := its ++ its2) hH e (by simp) (r.append r2) ?_, rfl, q⟩
  rw [List.length_append]
  omega
theorem m_popAt : MtR X "list.pop" (rMut X.K X.mg opPopAt) := by
  rintro pins s σ H x vs v us Q I rx rv ⟨F, a, u, o, ds, o', d, rfl, sf, fa, ha, ro, rr, e, q⟩
  unfold opPopAt at e
  split at e
  · split at e
    · rename_i z
      obtain ⟨k, e1, e⟩ := opt_bind e
      obtain ⟨dd, e2, e3⟩ := opt_map' e
      cases e3
      obtain ⟨w, rfl, r1⟩ := rr.one
      cases r1
      cases ro with
      | lst zl rs =>
        have z := of_decide_eq_true z
        obtain ⟨y, hy, rep⟩ := rs.getD e2
        rw [← rs.length] at e1
        refine mt_popAt pins s σ H _ _ v us Q I rx rv ⟨a, _, _, k, y, rfl, rfl, ha, z.1, z.2, (ixN_seq e1).1, hy, q _ _ (.lst ?_ (rs.erase k)) rep⟩
        exact Nat.le_trans (List.length_eraseIdx_le _ _) zl
    · cases e
  · cases e
theorem m_extend : MtR X "list.extend" (rMut X.K X.mg opExtend) := by
  rintro pins s σ H x vs v us Q I rx rv ⟨F, a, u, o, ds, o', d, rfl, sf, fa, ha, ro, rr, e, q⟩
  unfold opExtend at e
  split at e
  · split at e
    · rename_i z
      cases e
      obtain ⟨w, rfl, r1⟩ := rr.one
      cases ro with
      | lst zl rs =>
        have z : _ ≤ sizeLine := of_decide_eq_true z
        cases r1 with
        | lst k zk rk =>
          have l1 := rs.length
          have l2 := rk.length
          exact ext_rd pins s σ H _ _ v us Q I rx rv ⟨a, _, _, _, rfl, rfl, ha, LstR.same sf k, by omega, q _ _ (.lst (by rw [List.length_append]; omega) (rs.append rk)) .non⟩
    · cases e
  · cases e
theorem m_pop : MtR X "list.pop" (rMut X.K X.mg opPop) := by
  rintro pins s σ H x vs v us Q I rx rv ⟨F, a, u, o, ds, o', d, rfl, sf, fa, ha, ro, rr, e, q⟩
  unfold opPop at e
  split at e
  · obtain ⟨dd, e1, e2⟩ := opt_map' e
    cases e2
    cases rr.nil_
    cases ro with
    | lst zl rs =>
      obtain ⟨w, hw, rep⟩ := rs.getD e1
      refine mt_pop pins s σ H _ _ v us Q I rx rv ⟨a, _, w, rfl, rfl, ha, by rw [rs.length]; exact hw, q _ _ (.lst ?_ rs.dropLast) rep⟩
      rw [List.length_dropLast]
      omega
  · cases e
theorem m_clear : MtR X "list.clear" (rMut X.K X.mg opClear) := by
  rintro pins s σ H x vs v us Q I rx rv ⟨F, a, u, o, ds, o', d, rfl, sf, fa, ha, ro, rr, e, q⟩
  unfold opClear at e
  split at e
  · cases e
    cases rr.nil_
    cases ro with
    | lst zl rs => exact mt_clear pins s σ H _ _ v us Q I rx rv ⟨a, _, rfl, rfl, ha, q _ _ (.lst (Nat.zero_le _) .nil) .non⟩
  · cases e
variable {e : Expr} {es : List Expr} {fs : M (List RV)} {apos cpos p : Pos} {name y : Str} {id : String}
theorem holdsL_ty {B : Bs} {F H : Hp} {σ : L2.St} {ρ : Rho} {i : Nat} (sr : SR X.K X.mg B F σ H ρ) (h : holdsL i ρ = true) : ∃ v, σ[i]? = some (some v) ∧ tyV X.K "list" v H := by
  unfold holdsL at h
  split at h
  · rename_i xs q
    obtain ⟨v, e1, a, u, rfl, _, _, h3, h4⟩ := sr.slot i _ q
    cases h4 with
    | lst _ _ => exact ⟨_, e1, .inl ⟨rfl, _, SqL.of h3⟩⟩
  · rename_i xs q
    obtain ⟨v, e1, a, u, rfl, _, _, h3, h4⟩ := sr.slot i _ q
    cases h4 with
    | lst _ _ => exact ⟨_, e1, .inl ⟨rfl, _, SqL.of h3⟩⟩
  · cases h
theorem finM_run {W : WX} {op : Ob → List D → Option (Ob × D)} {B : Bs} {F0 F H : Hp} {σ : L2.St} {ρ : Rho} {i : Nat} {ds : List D} {vs : List V} {v : V} {Q : VK} (sr : SR X.K X.mg B F σ H ρ) (s0 : Same F0 F) (ev : σ[i]? = some (some v)) (rr : Reps X.K X.mg F vs ds)
    (h : outcome X.K X.mg W B F0 σ (finM op i ds ρ) fun r ρ' => ∀ v H' F', SR X.K X.mg B F' σ H' ρ' → Same F0 F' → RVR X.K X.mg B F' H' σ ρ' v r → Q v H') : rMut X.K X.mg op v vs H Q := by
  unfold finM at h
  split at h
  · rename_i o q
    cases q2 : op o ds with
    | none => rw [q2] at h; exact h.elim
    | some od =>
      rw [q2] at h
      obtain ⟨a, u, rfl, fa, ha, ro, ch⟩ := sr.mut q (.inl rfl) ev
      exact ⟨F, a, u, o, ds, od.1, od.2, rfl, sr.same, fa, ha, ro, rr, q2, fun w u' ro' rep => h w _ F (ch _ _ ro') s0 rep⟩
  · rename_i o q
    cases q2 : op o ds with
    | none => rw [q2] at h; exact h.elim
    | some od =>
      rw [q2] at h
      obtain ⟨a, u, rfl, fa, ha, ro, ch⟩ := sr.mut q (.inr rfl) ev
      exact ⟨F, a, u, o, ds, od.1, od.2, rfl, sr.same, fa, ha, ro, rr, q2, fun w u' ro' rep => h w _ F (ch _ _ ro') s0 rep⟩
  · exact h.elim
/-- xs.m(e, ..), xs a name that holds a list -/
theorem ve_mut {op : Ob → List D → Option (Ob × D)} {i : Nat} (pa : PlainAttrs "list") (slot : PySem.Slot "list" name id) (hty : typeOf (.builtin id) = pure (.type "method_descriptor")) (hm : MtR X id (rMut X.K X.mg op)) (hN : PE X (.Name y p) (tVar i)) (ha : VA X (e :: es) fs)
    (hbase : attributeBase (.Name y p) name X.env (eval (.Name y p) X.env) = eval (.Name y p) X.env := by rfl)
    (hfew : ((backTo cpos (starEach (e :: es) X.env)).all (fun x => !x.1) && (backToKw cpos (keywordEach [] X.env)).all (fun x => x.1.isSome)
      && decide ((e :: es).length + ([] : List Keyword).length + (if ([] : List Keyword).isEmpty then 0 else 1) < 30)) = true := by rfl)
    (hline : (apos.endLine == cpos.line) = true := by rfl) (hs : starEach (e :: es) X.env = (false, eval e X.env) :: starEach es X.env := by rfl) (hplain : (backTo cpos (starEach es X.env)).any (·.1) = false := by rfl) :
    VE X (.Call (.Attribute (.Name y p) name apos) (e :: es) [] cpos) (mMut op i fs) := by
  refine ⟨fun W tk => (pe_bm pa slot hty hm hN (ha.run W tk) hbase hfew hline hs hplain).imp fun σ H Q ⟨B, F, ρ, sr, h⟩ => ?_⟩
  unfold mMut at h
  split at h
  · rename_i hl
    obtain ⟨v, ev, ty⟩ := holdsL_ty sr hl
    refine ⟨v, ev, ty, B, F, ρ, sr, h.bind.imp fun rs ρ1 h vs H1 F1 sr1 s1 rvs => ?_⟩
    obtain ⟨ds, F2, ρ2, sr2, s2, reps, h⟩ := settle_run sr1 rvs s1 h.bind
    exact finM_run sr2 (s1.trans s2) ev reps h
  · exact h.elim
theorem ve_mut0 {op : Ob → List D → Option (Ob × D)} {i : Nat} (pa : PlainAttrs "list") (slot : PySem.Slot "list" name id) (hty : typeOf (.builtin id) = pure (.type "method_descriptor")) (hm : MtR X id (rMut X.K X.mg op)) (hN : PE X (.Name y p) (tVar i))
    (hbase : attributeBase (.Name y p) name X.env (eval (.Name y p) X.env) = eval (.Name y p) X.env := by rfl) (hline : (apos.endLine == cpos.line) = true := by rfl) :
    VE X (.Call (.Attribute (.Name y p) name apos) [] [] cpos) (mMut op i mNil) := by
  refine ⟨fun W tk => (pe_bm0 pa slot hty hm hN hbase hline).imp fun σ H Q ⟨B, F, ρ, sr, h⟩ => ?_⟩
  unfold mMut at h
  split at h
  · rename_i hl
    obtain ⟨v, ev, ty⟩ := holdsL_ty sr hl
    exact ⟨v, ev, ty, finM_run sr (Same.refl _) ev .nil h⟩
  · exact h.elim
end
/-! ### xs[i] = e -/
def finSub (j : Nat) (d k : D) : M Unit := fun ρ => match k, ρ[j]? with
  | .int n, some (some (.own (.lst xs))) => (match ixN xs.length n with
    | some m => .ok () (ρ.set j (some (.own (.lst (xs.set m d)))))
    | none => .bad)
  | .int n, some (some (.par (.lst xs))) => (match ixN xs.length n with
    | some m => .ok () (ρ.set j (some (.par (.lst (xs.set m d)))))
    | none => .bad)
  | _, _ => .bad
/-- the target o[i], o the name in slot j -/
def gSub (j : Nat) (f : M RV) (r : RV) : M Unit := M.bind (set1 r) fun d => fun ρ => if holdsL j ρ then M.bind (noexc f) (fun ri => fun ρ => match cont ri ρ with
  | some k => finSub j d k ρ
  | none => .bad) ρ else .bad
theorem calm_noexc {α : Type} {m : M α} : Calm (noexc m) := fun ρ C fs ρ' z => by
  unfold noexc at z
  split at z <;> cases z
theorem calm_gSub {j : Nat} {f : M RV} {r : RV} : Calm (gSub j f r) := calm_bind (set1_calm r) fun d ρ0 C0 fs0 ρ0' z0 => by
  split at z0
  · refine calm_bind calm_noexc (fun ri ρ C fs ρ' z => ?_) ρ0 C0 fs0 ρ0' z0
    split at z
    · unfold finSub at z
      split at z
      · split at z <;> cases z
      · split at z <;> cases z
      · cases z
    · cases z
  · cases z0
section
variable {X : Cx} {e : Expr} {p pos : Pos} {y : Str} {f : M RV}
theorem vg_sub {j : Nat} (hN : PE X (.Name y p) (tVar j)) (hi : VE X e f)
    (ha : ∀ v, assign (.Subscript (.Name y p) e pos) X.env v = (do
      let ov ← holding [v] (eval (.Name y p) X.env)
      let iv ← holding [v, ov] (eval e X.env)
      standAt pos
      holding [v, ov, iv] (setItem ov iv v)
      release [v, ov, iv] []) := by intro _; rfl) : VG X (.Subscript (.Name y p) e pos) [] (gSub j f) := by
  refine ⟨(pg_sub hN (hi.run _ takes0) set_list ha).imp fun v σ H Q ⟨B, F, ρ, r, sr, rv, h⟩ => ?_⟩
  obtain ⟨d, F1, ρ1, sr1, s1, rep, h⟩ := set1_run (W := fun _ _ _ _ => False) (F0 := F) sr rv (outcG.bind h).out
  split at h
  · rename_i hl
    obtain ⟨o, ev, _⟩ := holdsL_ty sr1 hl
    refine ⟨o, ev, B, F1, ρ1, sr1, ((noexc_run (outcG.bind h)).imp fun ri ρ2 h w H2 F2 sr2 s2 rw2 => ?_).out⟩
    cases q2 : cont ri ρ2 with
    | none => rw [q2] at h; exact h.elim
    | some k =>
      rw [q2] at h
      replace h : outcG (finSub j d k ρ2) _ := h
      have rt := rw2.cont sr2 q2
      unfold finSub at h
      split at h
      · rename_i n xs q
        cases rt.int_
        split at h
        · rename_i m q3
          obtain ⟨a, u, rfl, fa, ha, ro, ch⟩ := sr2.mut q (.inl rfl) ev
          cases ro with
          | lst zl rs =>
            refine ⟨a, _, n, m, rfl, rfl, ha, by rw [rs.length]; exact q3, h σ _ F2 (Off.refl σ) (ch (.lst (xs.set m d)) _ (.lst (by rw [List.length_set]; exact zl) (rs.set m (rep.same s2)))) (s1.trans s2)⟩
        · exact h.elim
      · rename_i n xs q
        cases rt.int_
        split at h
        · rename_i m q3
          obtain ⟨a, u, rfl, fa, ha, ro, ch⟩ := sr2.mut q (.inr rfl) ev
          cases ro with
          | lst zl rs =>
            refine ⟨a, _, n, m, rfl, rfl, ha, by rw [rs.length]; exact q3, h σ _ F2 (Off.refl σ) (ch (.lst (xs.set m d)) _ (.lst (by rw [List.length_set]; exact zl) (rs.set m (rep.same s2)))) (s1.trans s2)⟩
        · exact h.elim
      · exact h.elim
  · exact h.elim
end
end VE

namespace VE
open PySem PySem.Spec PyProof.Rows L2 G0
/-! ### defs -/
/-- a def's promise where no repr is under way; errors may leave it -/
structure FnV (P : Program) (w : World) (K : PySem.W.Frag) (mg : Str → Option Value) (base : Heap) (k : Nat) (f : Addr) (fd : FuncData) (ps : List Str) (sp : Sp) : Prop where
  len : ∀ vs H Q E, sp vs H Q E → vs.length = ps.length
  run : ∀ (A : Around) (outer : List Env) (s : Shared) (H : Hp) (args : Args) (us : List Value) (vs : List V) (Q : VK) (E : XK), A.guards = some [] → Room k A →
    Env0 P w K mg base A outer s H → BindsTo s fd args (ps.zip us) → Vals vs us → sp vs H Q E → codeAny (model P w) A (.call (.ref f) args) (CR (L2.CX P w) outer P w H s Q E) s
theorem FnV.mono {P : Program} {w : World} {K : PySem.W.Frag} {mg : Str → Option Value} {base : Heap} {j k : Nat} {f : Addr} {fd : FuncData} {ps : List Str} {sp : Sp} (F : FnV P w K mg base j f fd ps sp) (h : j ≤ k) : FnV P w K mg base k f fd ps sp :=
  ⟨F.len, fun A outer s H args us vs Q E hg hr => F.run A outer s H args us vs Q E hg (hr.mono h)⟩
/-- an always true fact (kept for the shape of premises) -/
abbrev Fn := List Slot → Res RV
def fnBody (n : Nat) (body : M Flow) : Fn := fun args => match body (args.map some ++ List.replicate (n - args.length) none) with
  | .ok (.rt r) ρ => .ok r ρ
  | .ok .nx ρ => .ok (.val .non) ρ
  | .exc C fs ρ => .exc C fs ρ
  | _ => .bad
def outF (K : PySem.W.Frag) (mg : Mg) (B : Bs) (F : Hp) (Q : VK) (E : XK) : Res RV → Prop
  | .ok r ρ' => ∀ v σ' H' F', SR K mg B F' σ' H' ρ' → Same F F' → RVR K mg B F' H' σ' ρ' v r → Q v H'
  | .exc C fs ρ' => ∀ c F' σ' H', mg C = some (.ref c) → SR K mg B F' σ' H' ρ' → Same F F' → match fs with
    | none => E (.ref c) none H'
    | some ds => ∀ d vs, H' d = some (.xd vs) → RepK K mg F' vs ds → E (.ref c) (some d) H'
  | .bad => False
def spV (K : PySem.W.Frag) (mg : Mg) (n : Nat) (fn : Fn) : Sp := fun vs H Q E => vs.length = n ∧ ∃ B F args, B.F = F ∧ B.H = H ∧ SR K mg B F (vs.map some) H (args.map some) ∧ outF K mg B F Q E (fn args)
theorem SR.start {K : PySem.W.Frag} {mg : Mg} {B : Bs} {F H : Hp} {vs : List V} {args : List Slot} {N : List Str} (sr : SR K mg B F (vs.map some) H (args.map some)) : SR K mg B F (L2.start N vs) H (args.map some ++ List.replicate (N.length - args.length) none) := by
  have len : args.length = vs.length := by simpa using sr.len
  have look : ∀ (i : Nat) (s : Slot), (args.map some ++ List.replicate (N.length - args.length) none)[i]? = some (some s) → (args.map some)[i]? = some (some s) := by
    intro i s e
    by_cases h : i < (args.map some).length
    · rw [List.getElem?_append_left h] at e
      exact e
    · rw [List.getElem?_append_right (by omega), List.getElem?_replicate] at e
      split at e <;> cases e
  have lookV : ∀ (i : Nat) (v : V), (vs.map some)[i]? = some (some v) → (L2.start N vs)[i]? = some (some v) := by
    intro i v e
    unfold L2.start
    rw [List.getElem?_append_left (List.getElem?_eq_some_iff.mp e).1]
    exact e
  have backV : ∀ (i : Nat) (s : Slot) (v : V), (args.map some)[i]? = some (some s) → (L2.start N vs)[i]? = some (some v) → (vs.map some)[i]? = some (some v) := by
    intro i s v e e2
    have lt := (List.getElem?_eq_some_iff.mp e).1
    unfold L2.start at e2
    rw [List.getElem?_append_left (by simpa [len] using lt)] at e2
    exact e2
  refine ⟨?_, sr.same, sr.ent, sr.away, sr.keep, sr.pth, sr.pinj, fun i s e => ?_, fun i j o o' a e1 e2 f1 f2 => ?_⟩
  · unfold L2.start
    simp [len]
  · obtain ⟨v, h1, h2⟩ := sr.slot i s (look i s e)
    exact ⟨v, lookV i v h1, h2⟩
  · exact sr.sep i j o o' a (look _ _ e1) (look _ _ e2) (backV _ _ _ (look _ _ e1) f1) (backV _ _ _ (look _ _ e2) f2)
/-- THE RULE: a def by what its body does to data -/
theorem fnV_of {P : Program} {w : World} {K : PySem.W.Frag} {mg : Str → Option Value} {base : Heap} {x qual : Str} {st : Stmt} {f : Addr} {fd : FuncData} {N ps : List Str} {k : Nat} {b : M Flow} (F : Fun K x qual st f fd) (S : FnScope N ps (defScope st))
    (body : ∀ (cdv : Value) (A : Around) (outer : List Env) (s : Shared) (H : Hp) (E : XK), (A.deeper (envOfC qual (defScope st) s.heap.objs.size f cdv)).guards = some [] → Room k (A.deeper (envOfC qual (defScope st) s.heap.objs.size f cdv)) →
      VSs (cxOf (L2.CX P w) P w K mg base N qual (defScope st) f cdv A outer s H E) (defBody st) b) : FnV P w K mg base (k + 1) f fd ps (spV K mg ps.length (fnBody N.length b)) := by
  obtain ⟨oc, od, kV, doc, pm, an, cdv, ct, osl, rfl, look, code⟩ := F.ex
  constructor
  · exact fun vs H Q E h => h.1
  intro A outer s H args us vs Q E gd room e0 bn rv want
  have ln1 := want.1
  have kin : K.In s.heap := e0.mod.kin.keeps fun b o q => (e0.bs b o q).1
  have nolim : s.heap.NoLimit := e0.mod.nolimit.keeps fun b o q => (e0.bs b o q).1
  have kinds : ∀ y ∈ ps.zip us, (defScope st).names.lookup y.1 = some .local ∨ ((defScope st).names.lookup y.1 = some .cell ∧ ((cellsFrom (s.heap.objs.size + 1) (defScope st).names []).lookup y.1).isSome = true) := by
    rintro ⟨n, v⟩ mem
    rcases S.par n (List.of_mem_zip mem).1 with here | here
    · exact .inl here
    · exact .inr ⟨here, PySem.W.cellsFrom_some _ _ _ (.inl here)⟩
  refine codeAny_call_function room.depth (kin _ _ look) rfl S.co S.gen rfl (PySem.W.codeRec_of kin code) (bn _ _ _ _ ?_)
  refine wpAny_newFunctionEnv_cells S.kind kinds fun env he s1 into => ?_
  cases he
  refine ⟨nolim.keeps into.toInCall.keep, codeAny_func ?_⟩
  obtain ⟨_, B, F0, as, hF, hH, sr, out⟩ := want
  have hb := (body cdv A outer s H E gd (room.deeper _)).run (fun cls d _ H => E cls d H) (takes_of rfl rfl rfl rfl)
  have J : Inv (cxOf (L2.CX P w) P w K mg base N qual (defScope st) f cdv A outer s H E) [] (L2.start N vs) H s1 := inv_start S room.hd e0 ln1 rv into
  have sr0 := SR.start (N := N) sr
  have rd : tVS K mg (fun cls d _ H => E cls d H) b { nx := fun _ H' => Q .non H', rt := Q } (L2.start N vs) H := by
    refine ⟨B, F0, _, sr0, ?_⟩
    unfold fnBody at out
    cases q : b (as.map some ++ List.replicate (N.length - as.length) none) with
    | bad => rw [q] at out; exact out.elim
    | exc C fs ρ' =>
      rw [q] at out
      intro c F' σ' H' e sr' s'
      have out := out c F' σ' H' e sr' s'
      cases fs with
      | none => exact out
      | some ds => exact out
    | ok fl ρ' =>
      rw [q] at out
      cases fl with
      | nx => exact fun σ' H' F' sr' s' => out .non σ' H' F' sr' s' .non
      | rt r => exact fun v σ' H' F' sr' s' rv => out v σ' H' F' sr' s' rv
      | bk => exact out.elim
      | ct => exact out.elim
  refine wpAny_mono (hb.run [] s1 (L2.start N vs) H _ J rd) (fun fl s2 got => ?_) fun _ _ got => got
  match fl, got with
  | .ret u, ⟨v, σ2, H2, J2, rv2, q⟩ => exact ⟨v, H2, J2.os, J2.bare, J2.base, J2.hok, rv2, q⟩
  | .next, ⟨σ2, H2, J2, q⟩ => exact ⟨.non, H2, J2.os, J2.bare, J2.base, J2.hok, rfl, q⟩
  | .brk, ⟨_, _, _, q⟩ => exact q.elim
  | .cont, ⟨_, _, _, q⟩ => exact q.elim
/-! ### calls -/
/-- arguments made ready: data that stay, or the slot that is lent -/
def pre : List Bool → List RV → M (List (Sum D Nat))
  | _, [] => M.ret []
  | true :: ks, .pl i :: rs => M.bind (pre ks rs) fun l => M.ret (.inr i :: l)
  | _ :: ks, r :: rs => M.bind (set1 r) fun d => M.bind (pre ks rs) fun l => M.ret (.inl d :: l)
  | [], r :: rs => M.bind (set1 r) fun d => M.bind (pre [] rs) fun l => M.ret (.inl d :: l)
def obAt (ρ : Rho) (i : Nat) : Option Ob := match ρ[i]? with
  | some (some (.own o)) => some o
  | some (some (.par o)) => some o
  | _ => none
def mkArgs (ρ : Rho) : List (Sum D Nat) → Option (List Slot)
  | [] => some []
  | .inl d :: l => (mkArgs ρ l).map (.val d :: ·)
  | .inr i :: l => match obAt ρ i, mkArgs ρ l with
    | some o, some s => some (.par o :: s)
    | _, _ => none
def lent : List (Sum D Nat) → List Nat
  | [] => []
  | .inl _ :: l => lent l
  | .inr i :: l => i :: lent l
/-- what was lent comes back -/
def backE : Rho → List (Sum D Nat) → Nat → Rho → Option Rho
  | ρ, [], _, _ => some ρ
  | ρ, .inl _ :: l, j, ρ' => backE ρ l (j + 1) ρ'
  | ρ, .inr i :: l, j, ρ' => match ρ'[j]?, ρ[i]? with
    | some (some (.par o')), some (some s) => backE (ρ.set i (some (s.put o'))) l (j + 1) ρ'
    | _, _ => none
def runF (n : Nat) (fn : Fn) (l : List (Sum D Nat)) : M RV := fun ρ => if (lent l).Nodup ∧ l.length = n then (match mkArgs ρ l with
  | none => .bad
  | some as => match fn as with
    | .bad => .bad
    | .ok (.pl _) _ => .bad
    | .ok r ρ' => (match backE ρ l 0 ρ' with | some ρ2 => .ok r ρ2 | none => .bad)
    | .exc C fs ρ' => (match backE ρ l 0 ρ' with | some ρ2 => .exc C fs ρ2 | none => .bad)) else .bad
def mCall (n : Nat) (ks : List Bool) (fn : Fn) (f : M (List RV)) : M RV := M.bind f fun rs => M.bind (pre ks rs) fun l => runF n fn l
section
variable {K : PySem.W.Frag} {mg : Mg} {B : Bs} {F F' H H' : Hp} {σ σ' : L2.St} {ρ ρ' ρ2 : Rho} {l : List (Sum D Nat)} {vs : List V}
/-- the values ready for a call -/
inductive ArgR (K : PySem.W.Frag) (mg : Mg) (F : Hp) (σ : L2.St) : List V → List (Sum D Nat) → Prop where
  | nil : ArgR K mg F σ [] []
  | val {v : V} {vs : List V} {d : D} {l : List (Sum D Nat)} : Rep K mg F v d → ArgR K mg F σ vs l → ArgR K mg F σ (v :: vs) (.inl d :: l)
  | pl {v : V} {vs : List V} {i : Nat} {l : List (Sum D Nat)} : σ[i]? = some (some v) → ArgR K mg F σ vs l → ArgR K mg F σ (v :: vs) (.inr i :: l)
theorem ArgR.same (s : Same F F') (h : ArgR K mg F σ vs l) : ArgR K mg F' σ vs l := by
  induction h with
  | nil => exact .nil
  | val r _ ih => exact .val (r.same s) ih
  | pl e _ ih => exact .pl e ih
theorem full_of {r : RV} {v : V} (r1 : RVh K mg F σ v r) {W : WX} {F0 : Hp} {k : D → Rho → Prop} (h : outcome K mg W B F0 σ (set1 r ρ) k) : RVR K mg B F H σ ρ v r := by
  cases r with
  | val d => exact r1
  | own o => exact r1.elim
  | pl i =>
    refine ⟨r1, ?_⟩
    unfold set1 at h
    dsimp only at h
    split at h
    · rename_i q; exact ⟨_, q⟩
    · rename_i q; exact ⟨_, q⟩
    · exact h.elim
theorem pre_run {W : WX} {F0 : Hp} {k : List (Sum D Nat) → Rho → Prop} : ∀ {ks : List Bool} {rs : List RV} {vs : List V} {F : Hp} {ρ : Rho}, SR K mg B F σ H ρ → RVs K mg F σ vs rs → Same F0 F → outcome K mg W B F0 σ (pre ks rs ρ) k →
    ∃ l F' ρ', SR K mg B F' σ H ρ' ∧ Same F F' ∧ ArgR K mg F' σ vs l ∧ k l ρ' := by
  intro ks rs
  induction rs generalizing ks k with
  | nil =>
    intro vs F ρ sr rv s0 h
    cases rv
    have h : k [] ρ := by cases ks <;> exact h
    exact ⟨[], F, ρ, sr, Same.refl _, .nil, h⟩
  | cons r rs ih =>
    intro vs F ρ sr rv s0 h
    cases rv with
    | cons r1 rv =>
      rename_i v0 vs0
      have val : ∀ ks', outcome K mg W B F0 σ ((M.bind (set1 r) fun d => M.bind (pre ks' rs) fun l => M.ret (.inl d :: l)) ρ) k → ∃ l F' ρ', SR K mg B F' σ H ρ' ∧ Same F F' ∧ ArgR K mg F' σ (v0 :: vs0) l ∧ k l ρ' := by
        intro ks' h
        have h := h.bind
        obtain ⟨d, F1, ρ1, sr1, s1, rep, h⟩ := set1_run sr (full_of r1 h) h
        obtain ⟨l, F2, ρ2, sr2, s2, ar, h⟩ := ih sr1 (rv.same s1) (s0.trans s1) h.bind
        exact ⟨.inl d :: l, F2, ρ2, sr2, s1.trans s2, .val (rep.same s2) ar, h⟩
      cases ks with
      | nil => exact val [] (by cases r <;> exact h)
      | cons b ks =>
        cases b with
        | false => exact val ks (by cases r <;> exact h)
        | true =>
          cases r with
          | val d => exact val ks h
          | own o => exact val ks h
          | pl i =>
            obtain ⟨l, F2, ρ2, sr2, s2, ar, h⟩ := ih sr rv s0 (outcome.bind h)
            exact ⟨.inr i :: l, F2, ρ2, sr2, s2, .pl r1 ar, h⟩
/-- the entry of the callee -/
def callB (F H : Hp) (σ : L2.St) (l : List (Sum D Nat)) : Bs := ⟨F, H, fun j => match l[j]? with
  | some (.inr i) => (match σ[i]? with | some (some (.ref a)) => some a | _ => none)
  | _ => none⟩
theorem callB_par {j : Nat} {a : Addr} (h : (callB F H σ l).par j = some a) : ∃ i, l[j]? = some (.inr i) ∧ σ[i]? = some (some (.ref a)) := by
  unfold callB at h
  dsimp only at h
  split at h
  · rename_i i q
    split at h
    · rename_i b q2
      cases h
      exact ⟨i, q, q2⟩
    · cases h
  · cases h
theorem callB_of {j i : Nat} {a : Addr} (h : l[j]? = some (.inr i)) (e : σ[i]? = some (some (.ref a))) : (callB F H σ l).par j = some a := by
  unfold callB
  dsimp only
  rw [h]
  dsimp only
  rw [e]
theorem obAt_of {i : Nat} {o : Ob} (h : obAt ρ i = some o) : ∃ s, ρ[i]? = some (some s) ∧ (s = .own o ∨ s = .par o) := by
  unfold obAt at h
  split at h
  · rename_i q; cases h; exact ⟨_, q, .inl rfl⟩
  · rename_i q; cases h; exact ⟨_, q, .inr rfl⟩
  · cases h
theorem SR.at_ {i : Nat} {s : Slot} {o : Ob} (sr : SR K mg B F σ H ρ) (e : ρ[i]? = some (some s)) (hs : s = .own o ∨ s = .par o) : ∃ a u, σ[i]? = some (some (.ref a)) ∧ F a = none ∧ H a = some u ∧ RepO K mg F o u ∧ ((s = .own o ∧ B.H a = none) ∨ (s = .par o ∧ B.par i = some a)) := by
  obtain ⟨v, e1, h⟩ := sr.slot i s e
  rcases hs with rfl | rfl
  · obtain ⟨a, u, rfl, h1, h2, h3, h4⟩ := h
    exact ⟨a, u, e1, h2, h3, h4, .inl ⟨rfl, h1⟩⟩
  · obtain ⟨a, u, rfl, h1, h2, h3, h4⟩ := h
    exact ⟨a, u, e1, h2, h3, h4, .inr ⟨rfl, h1⟩⟩
/-- two slots that hold one object are one -/
theorem SR.one {i j : Nat} {s t : Slot} {o p : Ob} {a : Addr} (sr : SR K mg B F σ H ρ) (e : ρ[i]? = some (some s)) (hs : s = .own o ∨ s = .par o) (e' : ρ[j]? = some (some t)) (ht : t = .own p ∨ t = .par p) (f : σ[i]? = some (some (.ref a))) (f' : σ[j]? = some (some (.ref a))) : i = j := by
  obtain ⟨b, u, g, _, _, _, k⟩ := sr.at_ e hs
  obtain ⟨c, w, g', _, _, _, k'⟩ := sr.at_ e' ht
  rw [f] at g
  rw [f'] at g'
  cases g
  cases g'
  rcases k with ⟨rfl, q⟩ | ⟨rfl, q⟩
  · rcases k' with ⟨rfl, q'⟩ | ⟨rfl, q'⟩
    · exact sr.sep i j o p a e e' f f'
    · exact absurd q (sr.pth j a q').1
  · rcases k' with ⟨rfl, q'⟩ | ⟨rfl, q'⟩
    · exact absurd q' (sr.pth i a q).1
    · exact sr.pinj i j a q q'
theorem lent_mem {i j : Nat} : ∀ {l : List (Sum D Nat)}, l[j]? = some (.inr i) → i ∈ lent l
  | [], h => by simp at h
  | .inl _ :: l, h => by
    cases j with
    | zero => simp at h
    | succ j => exact lent_mem (j := j) (l := l) (by simpa using h)
  | .inr k :: l, h => by
    cases j with
    | zero => simp at h; subst h; exact List.mem_cons_self
    | succ j => exact List.mem_cons_of_mem _ (lent_mem (j := j) (l := l) (by simpa using h))
theorem lent_nodup {i : Nat} : ∀ {l : List (Sum D Nat)} {j k : Nat}, (lent l).Nodup → l[j]? = some (.inr i) → l[k]? = some (.inr i) → j = k
  | [], _, _, _, h, _ => by simp at h
  | .inl _ :: l, j, k, nd, h1, h2 => by
    cases j with
    | zero => simp at h1
    | succ j => cases k with
      | zero => simp at h2
      | succ k => rw [lent_nodup (l := l) (j := j) (k := k) nd (by simpa using h1) (by simpa using h2)]
  | .inr m :: l, j, k, nd, h1, h2 => by
    have nd : (m :: lent l).Nodup := nd
    rw [List.nodup_cons] at nd
    cases j with
    | zero => cases k with
      | zero => rfl
      | succ k =>
        simp at h1
        subst h1
        exact absurd (lent_mem (by simpa using h2)) nd.1
    | succ j => cases k with
      | zero =>
        simp at h2
        subst h2
        exact absurd (lent_mem (by simpa using h1)) nd.1
      | succ k => rw [lent_nodup (l := l) (j := j) (k := k) nd.2 (by simpa using h1) (by simpa using h2)]
theorem mkArgs_get : ∀ {l : List (Sum D Nat)} {as : List Slot} {j : Nat} {s : Slot}, mkArgs ρ l = some as → as[j]? = some s → (∃ d, l[j]? = some (.inl d) ∧ s = .val d) ∨ (∃ i o, l[j]? = some (.inr i) ∧ obAt ρ i = some o ∧ s = .par o)
  | [], as, j, s, h, e => by cases h; simp at e
  | .inl d :: l, as, j, s, h, e => by
    obtain ⟨as', h', rfl⟩ := opt_map' h
    cases j with
    | zero => simp at e; exact .inl ⟨d, rfl, e.symm⟩
    | succ j =>
      rcases mkArgs_get (j := j) h' (by simpa using e) with ⟨d', q⟩ | ⟨i, o, q⟩
      · exact .inl ⟨d', by simpa using q⟩
      · exact .inr ⟨i, o, by simpa using q⟩
  | .inr i :: l, as, j, s, h, e => by
    unfold mkArgs at h
    split at h
    · rename_i o as' q1 q2
      cases h
      cases j with
      | zero => simp at e; exact .inr ⟨i, o, rfl, q1, e.symm⟩
      | succ j =>
        rcases mkArgs_get (j := j) q2 (by simpa using e) with ⟨d', q⟩ | ⟨i', o', q⟩
        · exact .inl ⟨d', by simpa using q⟩
        · exact .inr ⟨i', o', by simpa using q⟩
    · cases h
theorem mkArgs_len : ∀ {l : List (Sum D Nat)} {as : List Slot}, mkArgs ρ l = some as → as.length = l.length
  | [], as, h => by cases h; rfl
  | .inl d :: l, as, h => by
    obtain ⟨as', h', rfl⟩ := opt_map' h
    exact congrArg (· + 1) (mkArgs_len h')
  | .inr i :: l, as, h => by
    unfold mkArgs at h
    split at h
    · rename_i o as' q1 q2
      cases h
      exact congrArg (· + 1) (mkArgs_len q2)
    · cases h
theorem ArgR.len (h : ArgR K mg F σ vs l) : vs.length = l.length := by
  induction h with
  | nil => rfl
  | val _ _ ih => exact congrArg (· + 1) ih
  | pl _ _ ih => exact congrArg (· + 1) ih
theorem ArgR.inl_ {j : Nat} {d : D} (h : ArgR K mg F σ vs l) (e : l[j]? = some (.inl d)) : ∃ v, vs[j]? = some v ∧ Rep K mg F v d := by
  induction h generalizing j with
  | nil => simp at e
  | val r _ ih => cases j with
    | zero => simp at e; subst e; exact ⟨_, rfl, r⟩
    | succ j => obtain ⟨v, h1, h2⟩ := ih (j := j) (by simpa using e); exact ⟨v, by simpa using h1, h2⟩
  | pl _ _ ih => cases j with
    | zero => simp at e
    | succ j => obtain ⟨v, h1, h2⟩ := ih (j := j) (by simpa using e); exact ⟨v, by simpa using h1, h2⟩
theorem ArgR.inr_ {j i : Nat} (h : ArgR K mg F σ vs l) (e : l[j]? = some (.inr i)) : ∃ v, vs[j]? = some v ∧ σ[i]? = some (some v) := by
  induction h generalizing j with
  | nil => simp at e
  | val r _ ih => cases j with
    | zero => simp at e
    | succ j => obtain ⟨v, h1, h2⟩ := ih (j := j) (by simpa using e); exact ⟨v, by simpa using h1, h2⟩
  | pl q _ ih => cases j with
    | zero => simp at e; subst e; exact ⟨_, rfl, q⟩
    | succ j => obtain ⟨v, h1, h2⟩ := ih (j := j) (by simpa using e); exact ⟨v, by simpa using h1, h2⟩
/-- the callee's state at its entry -/
theorem SR.enter {as : List Slot} (sr : SR K mg B F σ H ρ) (ar : ArgR K mg F σ vs l) (nd : (lent l).Nodup) (h : mkArgs ρ l = some as) : SR K mg (callB F H σ l) F (vs.map some) H (as.map some) where
  len := by rw [List.length_map, List.length_map, mkArgs_len h, ar.len]
  same := sr.same
  ent := Same.refl _
  away := fun _ _ h => h
  keep := fun _ _ e _ => e
  pth := fun j a p => by
    obtain ⟨i, h1, h2⟩ := callB_par p
    have : ∃ o, obAt ρ i = some o := by
      have lt : j < as.length := by rw [mkArgs_len h]; exact (List.getElem?_eq_some_iff.mp h1).1
      rcases mkArgs_get h (List.getElem?_eq_getElem lt) with ⟨d, q, _⟩ | ⟨i', o, q, q2, _⟩
      · rw [h1] at q; cases q
      · rw [h1] at q; cases q; exact ⟨o, q2⟩
    obtain ⟨o, ho⟩ := this
    obtain ⟨s, es, hs⟩ := obAt_of ho
    obtain ⟨b, u, g, q1, q2, q3, _⟩ := sr.at_ es hs
    rw [h2] at g
    cases g
    have nt : Nt (H a) := by rw [q2]; exact q3.nt
    exact ⟨nt.ne, q1, nt⟩
  pinj := fun j k a p1 p2 => by
    obtain ⟨i, h1, h2⟩ := callB_par p1
    obtain ⟨i', h1', h2'⟩ := callB_par p2
    have ob : ∀ {j i : Nat}, l[j]? = some (.inr i) → ∃ s o, ρ[i]? = some (some s) ∧ (s = .own o ∨ s = .par o) := by
      intro j i h1
      have lt : j < as.length := by rw [mkArgs_len h]; exact (List.getElem?_eq_some_iff.mp h1).1
      rcases mkArgs_get h (List.getElem?_eq_getElem lt) with ⟨d, q, _⟩ | ⟨i', o, q, q2, _⟩
      · rw [h1] at q; cases q
      · rw [h1] at q; cases q
        obtain ⟨s, es, hs⟩ := obAt_of q2
        exact ⟨s, o, es, hs⟩
    obtain ⟨s, o, es, hs⟩ := ob h1
    obtain ⟨t, p, et, ht⟩ := ob h1'
    obtain rfl := sr.one es hs et ht h2 h2'
    exact lent_nodup nd h1 h1'
  slot := fun j s e => by
    have e : as[j]? = some s := by simpa using e
    rcases mkArgs_get h e with ⟨d, q, rfl⟩ | ⟨i, o, q, q2, rfl⟩
    · obtain ⟨v, h1, h2⟩ := ar.inl_ q
      exact ⟨v, by simp [h1], h2⟩
    · obtain ⟨v, h1, h2⟩ := ar.inr_ q
      obtain ⟨s, es, hs⟩ := obAt_of q2
      obtain ⟨b, u, g, k1, k2, k3, _⟩ := sr.at_ es hs
      rw [h2] at g
      cases g
      exact ⟨_, by simp [h1], b, u, rfl, callB_of q h2, k1, k2, k3⟩
  sep := fun j k o o' a e1 e2 => by
    have e1 : as[j]? = some (.own o) := by simpa using e1
    rcases mkArgs_get h e1 with ⟨d, q, z⟩ | ⟨i, o, q, q2, z⟩ <;> cases z
theorem put_put (s : Slot) (o o' : Ob) : (s.put o).put o' = s.put o' := by cases s <;> rfl
theorem backE_spec : ∀ {l : List (Sum D Nat)} {ρ : Rho} {j : Nat} {ρ2 : Rho}, backE ρ l j ρ' = some ρ2 → ρ2.length = ρ.length ∧ ∀ (i : Nat) (s2 : Slot), ρ2[i]? = some (some s2) → (ρ[i]? = some (some s2) ∧ ∀ k : Nat, l[k]? ≠ some (.inr i)) ∨
    ∃ (k : Nat) (o' : Ob) (s : Slot), l[k]? = some (.inr i) ∧ ρ'[j + k]? = some (some (.par o')) ∧ ρ[i]? = some (some s) ∧ s2 = s.put o'
  | [], ρ, j, ρ2, h => by
    cases h
    exact ⟨rfl, fun i s2 e => .inl ⟨e, fun k => by simp⟩⟩
  | .inl d :: l, ρ, j, ρ2, h => by
    obtain ⟨h1, h2⟩ := backE_spec (l := l) (ρ := ρ) (j := j + 1) h
    refine ⟨h1, fun i s2 e => ?_⟩
    rcases h2 i s2 e with ⟨q1, q2⟩ | ⟨k, o', s, q1, q2, q3⟩
    · exact .inl ⟨q1, fun k => by cases k with | zero => simp | succ k => simpa using q2 k⟩
    · exact .inr ⟨k + 1, o', s, by simpa using q1, by rw [show j + (k + 1) = j + 1 + k by omega]; exact q2, q3⟩
  | .inr m :: l, ρ, j, ρ2, h => by
    unfold backE at h
    split at h
    · rename_i o0 s0 e1 e2
      obtain ⟨h1, h2⟩ := backE_spec (l := l) (j := j + 1) h
      refine ⟨by rw [h1, List.length_set], fun i s2 e => ?_⟩
      rcases h2 i s2 e with ⟨q1, q2⟩ | ⟨k, o', s, q1, q2, q3, q4⟩
      · rcases get_set q1 with ⟨rfl, z⟩ | ⟨ne, q1⟩
        · cases z
          exact .inr ⟨0, o0, s0, rfl, e1, e2, rfl⟩
        · exact .inl ⟨q1, fun k => by
            cases k with
            | zero => simp; exact fun z => ne z.symm
            | succ k => simpa using q2 k⟩
      · have e3 : ρ'[j + (k + 1)]? = some (some (.par o')) := by rw [show j + (k + 1) = j + 1 + k by omega]; exact q2
        rcases get_set q3 with ⟨rfl, z⟩ | ⟨ne, q3⟩
        · cases z
          exact .inr ⟨k + 1, o', s0, by simpa using q1, e3, e2, by rw [q4, put_put]⟩
        · exact .inr ⟨k + 1, o', s, by simpa using q1, e3, q3, q4⟩
    · cases h
theorem Slot.put_own {s : Slot} {o o' : Ob} (h : s.put o = .own o') : ∃ p, s = .own p := by
  cases s with
  | val d => cases h
  | own p => exact ⟨p, rfl⟩
  | par p => cases h
/-- behind the call -/
theorem SR.leave (sr : SR K mg B F σ H ρ) (nd : (lent l).Nodup) {as : List Slot} (hm : mkArgs ρ l = some as) (sr2 : SR K mg (callB F H σ l) F' σ' H' ρ') (hb : backE ρ l 0 ρ' = some ρ2) : SR K mg B F' σ H' ρ2 ∧ ∀ (i : Nat) (o : Ob), ρ2[i]? = some (some (.own o)) → ∃ o0, ρ[i]? = some (some (.own o0)) := by
  obtain ⟨len, spec⟩ := backE_spec hb
  have sF : Same F F' := sr2.ent
  have aw : ∀ a, Nt (H a) → F a = none → F' a = none := fun a h f => sr2.away a h f
  have ob : ∀ {j i : Nat}, l[j]? = some (.inr i) → ∃ s o, ρ[i]? = some (some s) ∧ (s = .own o ∨ s = .par o) := by
    intro j i h1
    have lt : j < as.length := by rw [mkArgs_len hm]; exact (List.getElem?_eq_some_iff.mp h1).1
    rcases mkArgs_get hm (List.getElem?_eq_getElem lt) with ⟨d, q, _⟩ | ⟨i', o, q, q2, _⟩
    · rw [h1] at q; cases q
    · rw [h1] at q; cases q
      obtain ⟨s, es, hs⟩ := obAt_of q2
      exact ⟨s, o, es, hs⟩
  have owns : ∀ (i : Nat) (o : Ob), ρ2[i]? = some (some (.own o)) → ∃ o0, ρ[i]? = some (some (.own o0)) := fun i o e => by
    rcases spec i _ e with ⟨q, _⟩ | ⟨k, o', s, _, _, q3, q4⟩
    · exact ⟨o, q⟩
    · obtain ⟨p, rfl⟩ := Slot.put_own q4.symm
      exact ⟨p, q3⟩
  refine ⟨⟨by rw [len]; exact sr.len, sr2.same, sr.ent.trans sF, fun a h f => aw a (sr.thereN h) (sr.away a h f), fun a u e p => ?_, fun i a p => ?_, sr.pinj, fun i s2 e => ?_, fun i j o o' a e1 e2 f1 f2 => ?_⟩, owns⟩
  · refine sr2.keep a u (sr.keep a u e p) fun j z => ?_
    obtain ⟨i, h1, h2⟩ := callB_par z
    obtain ⟨s, o, es, hs⟩ := ob h1
    obtain ⟨b, w, g, _, _, _, kd⟩ := sr.at_ es hs
    rw [h2] at g
    cases g
    rcases kd with ⟨_, q⟩ | ⟨_, q⟩
    · rw [q] at e; cases e
    · exact p i q
  · obtain ⟨h1, h2, h3⟩ := sr.pth i a p
    refine ⟨h1, h2, ?_⟩
    by_cases z : ∃ j, (callB F H σ l).par j = some a
    · obtain ⟨j, z⟩ := z
      exact (sr2.pth j a z).2.2
    · cases q : H a with
      | none => exact absurd q h3.ne
      | some u =>
        rw [sr2.keep a u q fun j w => z ⟨j, w⟩, ← q]
        exact h3
  · rcases spec i s2 e with ⟨q, no⟩ | ⟨k, o', s, q1, q2, q3, rfl⟩
    · obtain ⟨v, e1, h⟩ := sr.slot i s2 q
      refine ⟨v, e1, ?_⟩
      have stays : ∀ {o : Ob} {a : Addr} {u : HO}, (s2 = .own o ∨ s2 = .par o) → v = .ref a → H a = some u → H' a = some u := by
        intro o a u hs ev hu
        refine sr2.keep a u hu fun j z => ?_
        obtain ⟨i', h1, h2⟩ := callB_par z
        obtain ⟨t, p, et, ht⟩ := ob h1
        subst ev
        obtain rfl := sr.one q hs et ht e1 h2
        exact no j h1
      cases s2 with
      | val d => exact Rep.same sF h
      | own o =>
        obtain ⟨a, u, rfl, k1, k2, k3, k4⟩ := h
        exact ⟨a, u, rfl, k1, aw a (by rw [k3]; exact k4.nt) k2, stays (.inl rfl) rfl k3, k4.same sF⟩
      | par o =>
        obtain ⟨a, u, rfl, k1, k2, k3, k4⟩ := h
        exact ⟨a, u, rfl, k1, aw a (by rw [k3]; exact k4.nt) k2, stays (.inr rfl) rfl k3, k4.same sF⟩
    · obtain ⟨s', o, es, hs⟩ := ob q1
      rw [q3] at es
      cases es
      obtain ⟨b, w, g, g1, g2, g3, kd⟩ := sr.at_ q3 hs
      rw [Nat.zero_add] at q2
      obtain ⟨v', _, a', u', rfl, p1, p2, p3, p4⟩ := sr2.slot k _ q2
      obtain ⟨i', r1, r2⟩ := callB_par p1
      rw [q1] at r1
      cases r1
      rw [g] at r2
      cases r2
      refine ⟨_, g, ?_⟩
      rcases kd with ⟨rfl, q⟩ | ⟨rfl, q⟩
      · exact ⟨b, u', rfl, q, p2, p3, p4⟩
      · exact ⟨b, u', rfl, q, p2, p3, p4⟩
  · obtain ⟨p1, w1⟩ := owns i o e1
    obtain ⟨p2, w2⟩ := owns j o' e2
    exact sr.sep i j p1 p2 a w1 w2 f1 f2
/-- a call's run: the callee's promise from the caller's wish -/
theorem runF_sp {K : PySem.W.Frag} {mg : Mg} {W : WX} {B : Bs} {F0 F H : Hp} {σ : L2.St} {ρ : Rho} {fn : Fn} {l : List (Sum D Nat)} {vs : List V} {Q : VK} {n : Nat} (sr : SR K mg B F σ H ρ) (s0 : Same F0 F) (ar : ArgR K mg F σ vs l)
    (h : outcome K mg W B F0 σ (runF n fn l ρ) fun r ρ' => ∀ v H' F', SR K mg B F' σ H' ρ' → Same F0 F' → RVR K mg B F' H' σ ρ' v r → Q v H') : spV K mg n fn vs H Q (WE W σ) := by
  unfold runF at h
  split at h
  · rename_i nd
    obtain ⟨nd, hn⟩ := nd
    have hn : vs.length = n := ar.len.trans hn
    cases hm : mkArgs ρ l with
    | none => rw [hm] at h; exact h.elim
    | some as =>
      rw [hm] at h
      dsimp only at h
      refine ⟨hn, callB F H σ l, F, as, rfl, rfl, sr.enter ar nd hm, ?_⟩
      cases q : fn as with
      | bad => rw [q] at h; exact h.elim
      | exc C fs ρ' =>
        rw [q] at h
        dsimp only at h
        cases hb : backE ρ l 0 ρ' with
        | none => rw [hb] at h; exact h.elim
        | some ρ2 =>
          rw [hb] at h
          intro c F' σ' H' e sr2 s2
          exact h c F' H' e (sr.leave nd hm sr2 hb).1 (s0.trans s2)
      | ok r ρ' =>
        rw [q] at h
        cases hb : backE ρ l 0 ρ' with
        | none => cases r <;> (dsimp only at h; first | exact h.elim | (rw [hb] at h; exact h.elim))
        | some ρ2 =>
          cases r with
          | pl i => exact h.elim
          | val d =>
            dsimp only at h
            rw [hb] at h
            intro v σ' H' F' sr2 s2 rv
            exact h v H' F' (sr.leave nd hm sr2 hb).1 (s0.trans s2) rv
          | own o =>
            dsimp only at h
            rw [hb] at h
            rintro v σ' H' F' sr2 s2 ⟨p, u, rfl, k1, k2, k3, k4, _⟩
            obtain ⟨sr3, owns⟩ := sr.leave nd hm sr2 hb
            have k1 : H p = none := k1
            refine h _ H' F' sr3 (s0.trans s2) ⟨p, u, rfl, sr.fresh k1, k2, k3, k4, fun i o' e e2 => ?_⟩
            obtain ⟨o0, e0⟩ := owns i o' e
            obtain ⟨v', e1, a, w, rfl, _, _, q3, _⟩ := sr.slot i _ e0
            rw [e2] at e1
            cases e1
            rw [k1] at q3
            cases q3
  · exact h.elim
end
section
variable {X : Cx} {k n : Nat} {f : Addr} {fd : FuncData} {ps : List Str} {sp : Sp} {dvs : List V} {ds : List Value} {x : Str} {p pos : Pos} {e : Expr} {es : List Expr} {fs : M (List RV)} {fn : Fn} {ks : List Bool}
theorem run_V {pn : List (Addr × Obj)} {σ : L2.St} {H : Hp} {s : Shared} {Q : VK} {us : List Value} {vs : List V} {W : WX} (F : FnV X.prog X.w X.K X.mg X.base k f fd ps sp) (gd : X.A.guards = some []) (room : Room k X.A) (bn : Binds X.K fd ps []) (tk : Takes X W)
    (J : Inv X pn σ H s) (rv : Vals vs us) (want : sp vs H Q (WE W σ)) : wpAny (model X.prog X.w) X.A (call (.ref f) us) (EP X pn σ Q) X.xe s := by
  have ln : us.length = ps.length := rv.length.symm.trans (F.len _ _ _ _ want)
  have b := bn s us J.kIn (by rw [List.append_nil]; exact ln)
  rw [List.append_nil] at b
  refine wpAny_call (codeAny_mono (F.run X.A X.stack s H ⟨us, []⟩ us vs Q (WE W σ) gd room J.env0 b rv want) fun res s2 got => ?_)
  match res, got with
  | .error e, got => exact passAt tk σ pn H s e s2 J got
  | .ok (.ret _), got => exact J.after got
  | .ok .next, got => exact got.elim
  | .ok .brk, got => exact got.elim
  | .ok .cont, got => exact got.elim
/-- f(e, ..) -/
theorem ve_call (gd : X.A.guards = some []) (room : Room k X.A) (F : FnV X.prog X.w X.K X.mg X.base k f fd ps (spV X.K X.mg n fn)) (at_ : X.mg x = some (.ref f)) (kp : PySem.W.keepIn X.K (.ref f) = true) (bn : Binds X.K fd ps []) (ks : List Bool) (ha : VA X (e :: es) fs) 
    (gl : Gl X x := by rfl) (hdb : (x == ("__debug__" : Str)) = false := by decide) (he : starEach (e :: es) X.env = (false, eval e X.env) :: starEach es X.env := by rfl) (hpl : (backTo pos (starEach es X.env)).any (·.1) = false := by rfl) :
    VE X (.Call (.Name x p) (e :: es) [] pos) (mCall n ks fn fs) := by
  refine ⟨fun W tk => ⟨fun pn s σ H Q J want => ?_⟩⟩
  obtain ⟨B, F0, ρ, sr, h⟩ := want
  apply wpAny_Call_Name_kw
  refine ld_glob J gl at_ ?_ hdb
  refine PySem.W.callWith_K (h₀ := X.base) J.ok.mod.kin kp ?_ he hpl
  have rd : tVA X.K X.mg W fs σ H fun vs H1 => spV X.K X.mg n fn vs H1 Q (WE W σ) := by
    refine ⟨B, F0, ρ, sr, h.bind.imp fun rs ρ1 h vs H1 F1 sr1 s1 rvs => ?_⟩
    obtain ⟨l, F2, ρ2, sr2, s2, ar, h⟩ := pre_run sr1 rvs s1 h.bind
    exact runF_sp sr2 (s1.trans s2) ar h
  refine thn ((ha.run W tk).run pos pn s σ H _ J rd) ?_
  rintro us s1 ⟨vs, H1, J1, rv, q⟩
  exact ⟨J1.kIn, run_V F gd room bn tk J1 rv q⟩
/-- f() -/
theorem ve_call0 (gd : X.A.guards = some []) (room : Room k X.A) (F : FnV X.prog X.w X.K X.mg X.base k f fd ps (spV X.K X.mg n fn)) (at_ : X.mg x = some (.ref f)) (kp : PySem.W.keepIn X.K (.ref f) = true) (bn : Binds X.K fd ps [])
    (gl : Gl X x := by rfl) (hdb : (x == ("__debug__" : Str)) = false := by decide) : VE X (.Call (.Name x p) [] [] pos) (mCall n [] fn mNil) := by
  refine ⟨fun W tk => ⟨fun pn s σ H Q J want => ?_⟩⟩
  obtain ⟨B, F0, ρ, sr, h⟩ := want
  apply wpAny_Call_Name_kw
  refine ld_glob J gl at_ ?_ hdb
  exact PySem.W.callWith_K0 J.kIn kp (run_V (us := []) F gd room bn tk J .nil (runF_sp sr (Same.refl _) .nil h))
/-- how a call with all arguments by name binds: the i-th parameter is the (π i)-th name's -/
structure KbV (fd : FuncData) (ps ks : List Str) (π : List Nat) : Prop where
  to : ∀ ws : List Value, ws.length = ks.length → bindArgs fd ⟨[], ks.zip ws⟩ = pure (ps.zip (π.filterMap fun i => ws[i]?))
theorem kbV_of {K : PySem.W.Frag} {x qual : Str} {st : Stmt} {f : Addr} {fd : FuncData} {ps ks : List Str} {π : List Nat} (F : Fun K x qual st f fd)
    (h : ∀ (kV doc pm : Value) (an : Option Addr) (cdv ct : Value) (ws : List Value), ws.length = ks.length → bindArgs (PySem.W.fnOf x qual (defArgs st) (defBody st) (defScope st) .none kV doc pm an cdv ct) ⟨[], ks.zip ws⟩ = pure (ps.zip (π.filterMap fun i => ws[i]?))) : KbV fd ps ks π := by
  obtain ⟨oc, od, kV, doc, pm, an, cdv, ct, osl, rfl, _, _⟩ := F.ex
  exact ⟨h kV doc pm an cdv ct⟩
def mCallK (n : Nat) (π : List Nat) (ks : List Bool) (fn : Fn) (f : M (List RV)) : M RV := M.bind f fun rs => M.bind (pre ks rs) fun l => if l.length = π.length then runF n fn (π.filterMap fun i => l[i]?) else fun _ => .bad
structure VK (X : Cx) (kws : List Keyword) (f : M (List RV)) : Prop where
  run : ∀ W, Takes X W → PK X kws (tVA X.K X.mg W f)
theorem _root_.L2.PK.imp {X : Cx} {e : List Keyword} {t t' : TA} (h : PK X e t) (i : ∀ σ H Q, t' σ H Q → t σ H Q) : PK X e t' := ⟨fun po pins s σ H Q I q => h.run po pins s σ H Q I (i σ H Q q)⟩
theorem vk_nil : VK X [] mNil := ⟨fun W tk => pk_nil.imp fun σ H Q ⟨B, F, ρ, sr, h⟩ => h [] H F sr (Same.refl _) .nil⟩
theorem vk_cons {nm : Option Str} {kpos : Pos} {kws : List Keyword} {g : M RV} (ha : VE X e g) (hr : VK X kws fs) : VK X (⟨nm, e, kpos⟩ :: kws) (mCons g fs) := by
  refine ⟨fun W tk => (pk_cons (ha.run W tk) (hr.run W tk)).imp fun σ H Q ⟨B, F, ρ, sr, h⟩ => ?_⟩
  refine ⟨B, F, ρ, sr, h.bind.imp fun r ρ1 h v H1 F1 sr1 s1 rv => ?_⟩
  obtain ⟨F2, sr2, s2, rv2⟩ := rv.hold sr1
  refine ⟨B, F2, ρ1, sr2, (h.mono (s1.trans s2)).bind.imp fun rs ρ2 h vs H3 F3 sr3 s3 rvs => ?_⟩
  exact h (v :: vs) H3 F3 sr3 ((s1.trans s2).trans s3) (.cons (rv2.same s3) rvs)
theorem ArgR.perm {K : PySem.W.Frag} {mg : Mg} {F : Hp} {σ : L2.St} {vs : List V} {l : List (Sum D Nat)} (h : ArgR K mg F σ vs l) : ∀ π : List Nat, ArgR K mg F σ (π.filterMap fun i => vs[i]?) (π.filterMap fun i => l[i]?)
  | [] => .nil
  | i :: π => by
    have ih := ArgR.perm h π
    have len := h.len
    cases q : l[i]? with
    | none =>
      have q2 : vs[i]? = none := by rw [List.getElem?_eq_none_iff] at q ⊢; omega
      rw [List.filterMap_cons, List.filterMap_cons, q, q2]
      exact ih
    | some a =>
      cases a with
      | inl d =>
        obtain ⟨v, h1, h2⟩ := h.inl_ q
        rw [List.filterMap_cons, List.filterMap_cons, q, h1]
        exact .val h2 ih
      | inr j =>
        obtain ⟨v, h1, h2⟩ := h.inr_ q
        rw [List.filterMap_cons, List.filterMap_cons, q, h1]
        exact .pl h2 ih
theorem vals_perm {vs : List V} {us : List Value} (h : Vals vs us) : ∀ π : List Nat, Vals (π.filterMap fun i => vs[i]?) (π.filterMap fun i => us[i]?)
  | [] => .nil
  | i :: π => by
    have ih := vals_perm h π
    cases q : vs[i]? with
    | none =>
      rw [List.filterMap_cons, List.filterMap_cons, q, h.none_of q]
      exact ih
    | some a =>
      obtain ⟨u, h1, h2⟩ := h.get q
      rw [List.filterMap_cons, List.filterMap_cons, q, h1]
      exact .cons h2 ih
theorem ve_callK {kws : List Keyword} {kn : List Str} (gd : X.A.guards = some []) (room : Room k X.A) (F : FnV X.prog X.w X.K X.mg X.base k f fd ps (spV X.K X.mg n fn)) (at_ : X.mg x = some (.ref f)) (kp : PySem.W.keepIn X.K (.ref f) = true) {π : List Nat} (bn : KbV fd ps kn π) (ks : List Bool) (ha : VK X kws fs)
    (gl : Gl X x := by rfl) (hall : (backToKw pos (keywordEach kws X.env)).all (·.1.isSome) = true := by rfl) (hks : (backToKw pos (keywordEach kws X.env)).filterMap (·.1) = kn := by rfl) (hdb : (x == ("__debug__" : Str)) = false := by decide)
    (hpl : ((backTo pos (starEach [] X.env)).any (·.1) || (backToKw pos (keywordEach kws X.env)).any (·.1.isNone)) = false := by rfl) (hl : kn.length = π.length := by rfl) : VE X (.Call (.Name x p) [] kws pos) (mCallK n π ks fn fs) := by
  refine ⟨fun W tk => ⟨fun pn s σ H Q J want => ?_⟩⟩
  obtain ⟨B, F0, ρ, sr, h⟩ := want
  apply wpAny_Call_Name_kw
  refine ld_glob J gl at_ ?_ hdb
  refine PySem.W.callWith_KW0 (h₀ := X.base) J.ok.mod.kin kp hall ?_ hpl
  have rd : tVA X.K X.mg W fs σ H fun vs H1 => vs.length = π.length ∧ spV X.K X.mg n fn (π.filterMap fun i => vs[i]?) H1 Q (WE W σ) := by
    refine ⟨B, F0, ρ, sr, h.bind.imp fun rs ρ1 h vs H1 F1 sr1 s1 rvs => ?_⟩
    obtain ⟨l, F2, ρ2, sr2, s2, ar, h⟩ := pre_run sr1 rvs s1 h.bind
    split at h
    · rename_i e
      exact ⟨ar.len.trans e, runF_sp sr2 (s1.trans s2) (ar.perm π) h⟩
    · exact h.elim
  refine thn ((ha.run W tk).run pos pn s σ H _ J rd) ?_
  rintro ws s2 ⟨zs, H2, J2, rz, q⟩
  rw [hks]
  refine ⟨J2.kIn, ?_⟩
  have hw : ws.length = kn.length := by rw [← rz.length, q.1, hl]
  refine wpAny_call (codeAny_mono (F.run X.A X.stack s2 H2 ⟨[], kn.zip ws⟩ _ _ Q (WE W σ) gd room J2.env0 (.of_eq (bn.to ws hw)) (vals_perm rz π) q.2) fun res s3 got => ?_)
  match res, got with
  | .error _, got => exact passAt tk σ pn H2 s2 _ s3 J2 got
  | .ok (.ret _), got => exact J2.after got
  | .ok .next, got => exact got.elim
  | .ok .brk, got => exact got.elim
  | .ok .cont, got => exact got.elim
end
end VE

namespace VE
open PySem PySem.Spec PyProof.Rows L2 G0
/-! ### defs by name -/
/-- a def of the text, by what it does to data -/
structure Dv (P : Program) (w : World) (K : PySem.W.Frag) (mg : Mg) (base : Heap) (k : Nat) (x : Str) (st : Stmt) (ps : List Str) (fn : Fn) : Prop where
  ex : ∃ (f : Addr) (fd : FuncData), Fun K x x st f fd ∧ mg x = some (.ref f) ∧ Binds K fd ps [] ∧ FnV P w K mg base k f fd ps (spV K mg ps.length fn)
section
variable {X : Cx} {k n : Nat} {ps : List Str} {x : Str} {p pos : Pos} {e : Expr} {es : List Expr} {fs : M (List RV)} {fn : Fn} {ks : List Bool} {st : Stmt}
theorem ve_callC (D : Dv X.prog X.w X.K X.mg X.base k x st ps fn) (gd : X.A.guards = some []) (room : Room k X.A) (ks : List Bool) (ha : VA X (e :: es) fs)
    (gl : Gl X x := by rfl) (hdb : (x == ("__debug__" : Str)) = false := by decide) (he : starEach (e :: es) X.env = (false, eval e X.env) :: starEach es X.env := by rfl) (hpl : (backTo pos (starEach es X.env)).any (·.1) = false := by rfl) (hn : n = ps.length := by rfl) :
    VE X (.Call (.Name x p) (e :: es) [] pos) (mCall n ks fn fs) := by
  obtain ⟨f, fd, F, at_, bn, V⟩ := D.ex
  subst hn
  exact ve_call gd room V at_ F.kp bn ks ha gl hdb he hpl
theorem ve_callC0 (D : Dv X.prog X.w X.K X.mg X.base k x st ps fn) (gd : X.A.guards = some []) (room : Room k X.A) (gl : Gl X x := by rfl) (hdb : (x == ("__debug__" : Str)) = false := by decide) (hn : n = ps.length := by rfl) : VE X (.Call (.Name x p) [] [] pos) (mCall n [] fn mNil) := by
  obtain ⟨f, fd, F, at_, bn, V⟩ := D.ex
  subst hn
  exact ve_call0 gd room V at_ F.kp bn gl hdb
theorem ve_callCK {kws : List Keyword} {kn : List Str} (D : Dv X.prog X.w X.K X.mg X.base k x st ps fn) (gd : X.A.guards = some []) (room : Room k X.A) (π : List Nat)
    (hb : ∀ (kV doc pm : Value) (an : Option Addr) (cdv ct : Value) (ws : List Value), ws.length = kn.length → bindArgs (PySem.W.fnOf x x (defArgs st) (defBody st) (defScope st) .none kV doc pm an cdv ct) ⟨[], kn.zip ws⟩ = pure (ps.zip (π.filterMap fun i => ws[i]?)))
    (ks : List Bool) (ha : VK X kws fs)
    (gl : Gl X x := by rfl) (hall : (backToKw pos (keywordEach kws X.env)).all (·.1.isSome) = true := by rfl) (hks : (backToKw pos (keywordEach kws X.env)).filterMap (·.1) = kn := by rfl) (hdb : (x == ("__debug__" : Str)) = false := by decide)
    (hpl : ((backTo pos (starEach [] X.env)).any (·.1) || (backToKw pos (keywordEach kws X.env)).any (·.1.isNone)) = false := by rfl) (hl : kn.length = π.length := by rfl) (hn : n = ps.length := by rfl) : VE X (.Call (.Name x p) [] kws pos) (mCallK n π ks fn fs) := by
  obtain ⟨f, fd, F, at_, bn, V⟩ := D.ex
  subst hn
  exact ve_callK gd room V at_ F.kp (kbV_of F hb) ks ha gl hall hks hdb hpl hl
/-! ### names of the module -/
theorem ve_glob {v : V} {u : Value} {d : D} (hm : X.mg x = some u) (r : RelV v u) (rp : ∀ F, Rep X.K X.mg F v d) (hg : Gl X x := by rfl) (hd : (x == ("__debug__" : Str)) = false := by decide) : VE X (.Name x pos) (mVal d) := ve_c (pe_glob hg hm r hd) rp
theorem ve_globI {i : Int} {t : Tok} (hm : X.mg x = some (.int i t)) (hg : Gl X x := by rfl) (hd : (x == ("__debug__" : Str)) = false := by decide) : VE X (.Name x pos) (mVal (.int i)) := ve_glob (v := .int i) hm ⟨t, rfl⟩ (fun _ => .int i) hg hd
theorem ve_ty {T : TyN} (hm : X.mg x = none) (hv : bootBuiltins x = some (.type T.s)) (hg : Gl X x := by rfl) (hn : x ≠ "__name__" := by decide) (hd : (x == ("__debug__" : Str)) = false := by decide) : VE X (.Name x pos) (mVal (.ty T)) := ve_c (pe_bltn (v := .ty T.s) hg hm hv rfl hn hd) fun _ => .ty T
theorem ve_cls {c : Addr} (hm : X.mg x = some (.ref c)) (hg : Gl X x := by rfl) (hd : (x == ("__debug__" : Str)) = false := by decide) : VE X (.Name x pos) (mVal (.cls x)) := ve_glob (v := .ref c) hm rfl (fun _ => .cls hm) hg hd
/-- a module's name for a built-in function -/
theorem ve_callG {id : String} {c : List D → Option RV} (hc : CallR X (.builtin id) (rC X.K X.mg c)) (hm : X.mg x = some (.builtin id)) (ha : VA X (e :: es) fs) (hg : Gl X x := by rfl) (hdb : (x == ("__debug__" : Str)) = false := by decide)
    (he : starEach (e :: es) X.env = (false, eval e X.env) :: starEach es X.env := by rfl) (hpl : (backTo pos (starEach es X.env)).any (·.1) = false := by rfl) : VE X (.Call (.Name x p) (e :: es) [] pos) (mC c fs) := by
  refine ⟨fun W tk => (pe_callBfun hc hg hm (ha.run W tk) hdb he hpl).imp fun σ H Q ⟨B, F, ρ, sr, h⟩ => ?_⟩
  exact ⟨B, F, ρ, sr, h.bind.imp fun rs ρ1 h vs H1 F1 sr1 s1 rvs => finC_run sr1 s1 rvs h⟩
/-- what is never reached -/
theorem vs_bad {st : Stmt} : VS X st (fun _ => .bad) := ⟨fun W tk => ps_never.imp fun σ H De ⟨B, F, ρ, sr, h⟩ => h.elim⟩
end
theorem hu64 {k : Nat} {A : Around} (r : Room k A) : A.units + 64 < cLine := by have := r.un; omega
theorem hu65 {k : Nat} {A : Around} (r : Room k A) : A.units + 65 < cLine := by have := r.un; omega
theorem hu80 {k : Nat} {A : Around} (r : Room k A) : A.units + 80 < cLine := by have := r.un; omega
/-- which built-in names the text doesn't bind -/
structure Bt (mg : Mg) : Prop where
  isinstance : mg "isinstance" = none
  int : mg "int" = none
  bool : mg "bool" = none
  list : mg "list" = none
  tuple : mg "tuple" = none
  str : mg "str" = none
  dict : mg "dict" = none
  len : mg "len" = none
  all : mg "all" = none
  any : mg "any" = none
  abs : mg "abs" = none
  max : mg "max" = none
  min : mg "min" = none
  sum : mg "sum" = none
  divmod : mg "divmod" = none
  range : mg "range" = none
  repr : mg "repr" = none
  enumerate : mg "enumerate" = none
  sorted : mg "sorted" = none
  zip : mg "zip" = none
/-! ### the head -/
theorem call_topV {P : Program} {w : World} {K : PySem.W.Frag} {mg mb : Str → Option Value} {k : Nat} {fa a : Addr} {fd : FuncData} {x : Str} {sp : Sp} {s1 : Shared} {vs : List Value} {ns : List Int}
    (kin : K.In s1.heap) (hns : s1.heap.Ns mainGlobals mg) (hb : s1.heap.Ns builtinsNs mb) (hbb : ∀ x : Str, x ≠ "__name__" → mb x = bootBuiltins x) (lim : s1.heap.NoLimit) (gens : s1.gens = #[])
    (ha : s1.heap.get? a = some { cls := .type "list", data := .seq vs.toArray }) (hi : IntsAre vs ns) (hl : ns.length ≤ sizeLine) (room : Room k callerA)
    (F : ∀ base : Heap, K.In base → base.Ns mainGlobals mg → FnV P w K mg base k fa fd [x] sp) (bind : ∀ (s : Shared) (u : Value), BindsTo s fd ⟨[u], []⟩ [(x, u)])
    (want : ∀ H : Hp, Only H → LstR K H a (ns.map V.int) → sp [.ref a] H (fun v _ => v = .bl true) fun _ _ _ => False) :
    codeAny (model P w) callerA (.call (.ref fa) ⟨[.ref a], []⟩) (fun r s2 => r = .ok (.ret (.bool true)) ∧ OldK s1.heap s2.heap ∧ s2.os = s1.os ∧ AllBare s2.gens) s1 := by
  have vv := vals_ints hi
  have lv := hi.length
  -- H tracks nothing, or the script alone
  have main : ∀ H : Hp, Only H → LstR K H a (ns.map V.int) → HOk P w H s1.heap → (∀ b, H b ≠ none → b = a ∧ K.lookup a = none) →
      codeAny (model P w) callerA (.call (.ref fa) ⟨[.ref a], []⟩) (fun r s2 => r = .ok (.ret (.bool true)) ∧ OldK s1.heap s2.heap ∧ s2.os = s1.os ∧ AllBare s2.gens) s1 := by
    intro H only sq hok just
    have free : ∀ {b : Addr} {ob : Obj} {es : Array DictEntry} {ep : Nat}, s1.heap.get? b = some ob → ob.data = .dict es ep → H b = none := by
      intro b ob es ep e1 e2
      refine Classical.byContradiction fun no => ?_
      obtain rfl := (just b no).1
      rw [ha] at e1
      cases e1
      cases (show Data.seq vs.toArray _ = Data.dict es ep from e2)
    have ns_of : ∀ {b : Addr} {m : Str → Option Value}, s1.heap.Ns b m → (hidT s1.heap H).Ns b m := by
      rintro b m ⟨ob, es, ep, e1, e2, rest⟩
      exact ⟨ob, es, ep, hidT_get e1 (free e1 e2), e2, rest⟩
    have kinH : K.In (hidT s1.heap H) := by
      intro b ob e1
      refine hidT_get (kin b ob e1) (Classical.byContradiction fun no => ?_)
      obtain ⟨rfl, z⟩ := just b no
      rw [z] at e1
      cases e1
    have limH : (hidT s1.heap H).NoLimit := by
      obtain ⟨mc, l1, l2⟩ := lim
      exact ⟨mc, ns_of l1, l2⟩
    have env : Env0 P w K mg (hidT s1.heap H) callerA [] s1 H := by
      refine ⟨rfl, ⟨kinH, ns_of hns, ⟨mb, ns_of hb, hbb⟩, limH⟩, fun b ob e1 => of_hidT e1, Nat.le_of_eq (hidT_size _ _), trivial, ?_, hok, .of_eq gens⟩
      intro b mem
      cases (show b ∈ ([] : List Addr) from mem)
    refine codeAny_mono ((F _ kinH (ns_of hns)).run callerA [] s1 H ⟨[.ref a], []⟩ [.ref a] [.ref a] _ _ rfl room env (bind s1 (.ref a)) (.cons rfl .nil) (want H only sq)) fun res s2 got => ?_
    match res, got with
    | .error _, got => obtain ⟨_, _, _, _, _, _, _, _, _, _, _, _, z⟩ := got; exact z.elim
    | .ok .next, got => exact got.elim
    | .ok .brk, got => exact got.elim
    | .ok .cont, got => exact got.elim
    | .ok (.ret u), ⟨v, H2, eos, bare, un, hok2, rv, (q : v = .bl true)⟩ =>
      subst q
      obtain rfl : u = Value.bool true := rv
      refine ⟨rfl, OldK.of_keep fun b ob e1 => ?_, eos, bare⟩
      rcases only b with z | ⟨oz, ys, z⟩
      · refine un.keep b ob e1 z (fun mem => ?_) (fun mem => ?_)
        · cases (show b ∈ ([] : List Addr) from mem)
        · cases mem
      · obtain ⟨i1, _⟩ := hok b _ z
        obtain ⟨i2, _⟩ := hok2 b _ (un.frzs b oz _ z)
        exact i2.trans (i1.symm.trans e1)
  cases written : K.lookup a with
  | some ob =>
    have e1 := kin a ob written
    rw [ha] at e1
    cases e1
    refine main (fun _ => none) (fun _ => .inl rfl) (.inr ⟨vs.toArray, _, written, ?_, ?_⟩) (fun b u e2 => ?_) (fun b no => absurd rfl no)
    · rw [List.size_toArray, lv]
      exact hl
    · simpa using vv
    · cases (show (none : Option HO) = some u from e2)
  | none =>
    let T : Hp := fun b => if b = a then some (.frz { cls := .type "list", data := .seq vs.toArray } (.lst (ns.map V.int))) else none
    have here : T a = some (.frz { cls := .type "list", data := .seq vs.toArray } (.lst (ns.map V.int))) := if_pos rfl
    have away : ∀ b, b ≠ a → T b = none := fun b ne => if_neg ne
    refine main T (fun b => ?_) (.inl (.inr ⟨_, here⟩)) (fun b u e2 => ?_) (fun b no => ?_)
    · by_cases eb : b = a
      · subst eb
        exact .inr ⟨_, _, here⟩
      · exact .inl (away b eb)
    · by_cases eb : b = a
      · subst eb
        rw [here] at e2
        cases e2
        refine ⟨ha, ?_, vs, _, vv, ha⟩
        rw [List.length_map]
        exact hl
      · rw [away b eb] at e2
        cases e2
    · refine ⟨Classical.byContradiction fun ne => no (away b ne), written⟩
/-- what k_head leaves, by such a promise -/
theorem walk_V {l : PySem.W.OpenLaw} {n k : Nat} {q : Program} {loose : List Str} {XP : (Str → Option Value) → Heap → Prop} {YP : World → Heap → Prop} {d : DefRec} {K : Params → PySem.W.Frag} {sp : PySem.W.Frag → Sp} {x : Str}
    (most : l.most = some n) (fits : n ≤ sizeLine) (nodf : d.params.defaults = []) (room : Room k callerA) (hY : ∀ (w : World) (h : Heap), YP w h → (K w.params).In h)
    (F : ∀ (w : World) (mg : Str → Option Value) (fa : Addr) (h : Heap), (K w.params).In h → h.Ns mainGlobals mg → mg d.name = some (.ref fa) →
      ∃ fd : FuncData, (∀ (s : Shared) (u : Value), BindsTo s fd ⟨[u], []⟩ [(x, u)]) ∧ ∀ base : Heap, (K w.params).In base → base.Ns mainGlobals mg → FnV l.prog w (K w.params) mg base k fa fd [x] (sp (K w.params)))
    (want : ∀ (w : World) (H : Hp) (a : Addr) (ns : List Int), ns.length ≤ n → Only H → LstR (K w.params) H a (ns.map V.int) → sp (K w.params) [.ref a] H (fun v _ => v = .bl true) fun _ _ _ => False) :
    PySem.W.WalkO q loose XP YP l.row.toRowW d [] (fun f vs => PySem.call f vs) := by
  refine Att.attach_call most nodf ?_
  intro w s0 s1 mg mb fa o pm cd doc a vs ns G Y ho hd hcd hmg hobj iv len gens
  obtain ⟨fd, bn, hF⟩ := F w mg fa _ (hY w _ Y) G.T.g hmg
  exact call_topV (hY w _ Y) G.T.g G.T.b G.T.builtins G.T.nolimit gens hobj iv (Nat.le_trans len fits) room hF bn fun H only sq => want w H a ns len only sq
/-- the law's own promise: True at every script -/
def sp_lawV (K : PySem.W.Frag) : Sp := fun vs H Q E => ∃ (a : Addr) (ns : List Int), vs = [.ref a] ∧ ns.length ≤ 63 ∧ LstR K H a (ns.map V.int) ∧ ∀ H', Q (.bl true) H'
theorem reps_ints {K : PySem.W.Frag} {mg : Mg} {F : Hp} : ∀ ns : List Int, Reps K mg F (ns.map V.int) (ns.map D.int)
  | [] => .nil
  | n :: ns => .cons (.int n) (reps_ints ns)
theorem fn_law {P : Program} {w : World} {K : PySem.W.Frag} {mg : Mg} {base : Heap} {k : Nat} {f : Addr} {fd : FuncData} {x : Str} {fn : Fn} (F : FnV P w K mg base k f fd [x] (spV K mg 1 fn))
    (h : ∀ ns : List Int, ns.length ≤ 63 → ∃ ρ, fn [.val (.lst (ns.map D.int))] = .ok (.val (.bl true)) ρ) : FnV P w K mg base k f fd [x] (sp_lawV K) := by
  refine ⟨fun vs H Q E ⟨a, ns, e, _⟩ => by rw [e]; rfl, fun A outer s H args us vs Q E gd rm e0 bn rv ⟨a, ns, e, le, sq, q⟩ => F.run A outer s H args us vs Q E gd rm e0 bn rv ?_⟩
  obtain ⟨ρ, hr⟩ := h ns le
  subst e
  refine ⟨rfl, ⟨H, H, fun _ => none⟩, H, [.val (.lst (ns.map D.int))], rfl, rfl, ⟨rfl, Same.refl _, Same.refl _, fun a _ e => e, fun a u e _ => e, fun i a e => absurd e (fun z => nomatch z), fun i j a e => absurd e (fun z => nomatch z), ?_, ?_⟩, ?_⟩
  · intro i s e
    match i, e with
    | 0, e =>
      cases e
      refine ⟨_, rfl, .lst sq ?_ (reps_ints ns)⟩
      rw [List.length_map]
      exact Nat.le_trans le (by decide)
    | i + 1, e => simp at e
  · intro i j o o' a e
    match i, e with
    | 0, e => cases e
    | i + 1, e => simp at e
  · rw [hr]
    intro v σ' H' F' _ _ r
    cases r
    exact q H'
end VE

namespace VE
open PySem PySem.Spec PyProof.Rows L2 G0
/-! ### *e in a display -/
def mStar (f : M RV) (fs : M (List RV)) : M (List RV) := M.bind f fun r => M.bind (set1 r) fun d => match d with
  | .lst xs => M.bind fs fun rs => M.ret (xs.map RV.val ++ rs)
  | .tup xs => M.bind fs fun rs => M.ret (xs.map RV.val ++ rs)
  | _ => fun _ => .bad
theorem rvs_vals {K : PySem.W.Frag} {mg : Mg} {F : Hp} {σ : L2.St} : ∀ {vs : List V} {xs : List D}, Reps K mg F vs xs → RVs K mg F σ vs (xs.map RV.val)
  | _, _, .nil => .nil
  | _, _, .cons h r => .cons h (rvs_vals r)
theorem RVs.append {K : PySem.W.Frag} {mg : Mg} {F : Hp} {σ : L2.St} : ∀ {vs ws : List V} {rs ss : List RV}, RVs K mg F σ vs rs → RVs K mg F σ ws ss → RVs K mg F σ (vs ++ ws) (rs ++ ss)
  | _, _, _, _, .nil, h => h
  | _, _, _, _, .cons a r, h => .cons a (RVs.append r h)
section
variable {X : Cx} {e : Expr} {es : List Expr} {p : Pos} {f : M RV} {fs : M (List RV)}
theorem va_star (he : VE X e f) (hr : VA X es fs) (hs : starEach (.Starred e p :: es) X.env = (true, eval e X.env) :: starEach es X.env := by rfl) : VA X (.Starred e p :: es) (mStar f fs) := by
  refine ⟨fun W tk => (StX.pa_star (he.run W tk) (hr.run W tk) hs).imp fun σ H Q ⟨B, F, ρ, sr, h⟩ => ?_⟩
  refine ⟨B, F, ρ, sr, h.bind.imp fun r ρ1 h v H1 F1 sr1 s1 rv => ?_⟩
  obtain ⟨d, F2, ρ2, sr2, s2, rep, h⟩ := set1_run sr1 rv h.bind
  have go : ∀ (a : Addr) (vs : List V) (xs : List D), v = .ref a → (SqT X.K H1 a vs ∨ SqL X.K H1 a vs) → Reps X.K X.mg F2 vs xs → outcome X.K X.mg W B F σ (M.bind fs (fun rs => M.ret (xs.map RV.val ++ rs)) ρ2) (fun rs ρ' => ∀ vs H' F', SR X.K X.mg B F' σ H' ρ' → Same F F' → RVs X.K X.mg F' σ vs rs → Q vs H') →
      ∃ a xs, v = V.ref a ∧ (SqT X.K H1 a xs ∨ SqL X.K H1 a xs) ∧ tVA X.K X.mg W fs σ H1 fun vs H2 => Q (xs ++ vs) H2 := by
    intro a vs xs e1 e2 rr h
    refine ⟨a, vs, e1, e2, B, F2, ρ2, sr2, (h.mono (s1.trans s2)).bind.imp fun rs ρ3 h ws H3 F3 sr3 s3 rvs => ?_⟩
    exact h (vs ++ ws) H3 F3 sr3 ((s1.trans s2).trans s3) ((rvs_vals (rr.same s3)).append rvs)
  cases d with
  | lst xs =>
    cases rep with
    | lst k z rr => exact go _ _ xs rfl (.inr (LstR.same sr2.same k).sq) rr h
  | tup xs =>
    cases rep with
    | tup k z rr => exact go _ _ xs rfl (.inl (same_t sr2.same k.sq)) rr h
  | _ => exact h.elim
end
/-- a def that never gives an answer (the deepest of a recursion) -/
theorem fnV_bad {P : Program} {w : World} {K : PySem.W.Frag} {mg : Mg} {base : Heap} {k n : Nat} {f : Addr} {fd : FuncData} {ps : List Str} (hn : n = ps.length) : FnV P w K mg base k f fd ps (spV K mg n fun _ => .bad) :=
  ⟨fun vs H Q E h => h.1.trans hn, fun A outer s H args us vs Q E gd rm e0 bn rv ⟨_, B, F, as, _, _, _, z⟩ => z.elim⟩
end VE

namespace VE
open PySem PySem.Spec PyProof.Rows L2 G0
/-! ### comprehensions with two `for` -/
theorem it_over {J : It} {m : Nat} {G : Hp → Prop} {Y : Nat → Hp → V → Hp → Prop} (wk : Walk J m G Y) {Hs : Hp} {Qd : Hp → Prop} {body : V → Hp → (Hp → Prop) → Prop} (S : Nat → Hp → Prop) (first : S 0 Hs) (stays : ∀ k H, k ≤ m → S k H → G H)
    (turn : ∀ k x H Hx, k < m → S k H → Y k H x Hx → body x Hx (S (k + 1))) (last : ∀ H, S m H → Qd H) :
    ∃ Wt : Nat → Nat → Hp → Prop, (∃ c, Wt 0 c Hs) ∧ ∀ k c H, Wt k c H → (J.stop k H ∧ Qd H) ∨ (J.go k H ∧ ∃ Nx : Hp → Prop, (∀ Hn, Nx Hn → ∃ c', c' < c ∧ Wt (k + 1) c' Hn) ∧ ∀ x Hx, J.yld k H x Hx → body x Hx Nx) := by
  refine ⟨fun k c H => (c = m - k ∧ k ≤ m) ∧ S k H, ⟨m, ⟨by simp, Nat.zero_le _⟩, first⟩, ?_⟩
  rintro k c H ⟨⟨rfl, le⟩, s⟩
  have g := stays k H le s
  rcases Nat.lt_or_ge k m with lt | ge
  · exact .inr ⟨wk.goes k H lt g, S (k + 1), fun Hn sn => ⟨m - (k + 1), by omega, ⟨rfl, lt⟩, sn⟩, fun x Hx yl => turn k x H Hx lt s (wk.yields k H x Hx lt g yl)⟩
  · obtain rfl : k = m := by omega
    exact .inl ⟨wk.stops H g, last H s⟩

def turn2 (g : RV → M Unit) (t : M Bool) (it1 : M (List D)) (g1 : RV → M Unit) (t1 : M Bool) (e : M RV) (vs1 : List Nat) (c : Nat) (d : D) : M (List D) :=
  M.bind (g (.val d)) fun _ => M.bind t fun b => if b = true then M.bind it1 fun ds1 => fun ρ => if szOk (c + ds1.length) = true then lcL g1 t1 e vs1 ds1 (wipeE ρ vs1) else .bad else M.ret []
def lcL2 (g : RV → M Unit) (t : M Bool) (it1 : M (List D)) (g1 : RV → M Unit) (t1 : M Bool) (e : M RV) (vs vs1 : List Nat) : Nat → List D → M (List D)
  | _, [] => M.ret []
  | c, d :: ds => M.bind (noexc (turn2 g t it1 g1 t1 e vs1 c d)) fun l0 => fun ρ => M.bind (lcL2 g t it1 g1 t1 e vs vs1 (c + l0.length) ds) (fun l => M.ret (l0 ++ l)) (wipeE ρ vs)
def mLC2 (it : M (List D)) (g : RV → M Unit) (t : M Bool) (it1 : M (List D)) (g1 : RV → M Unit) (t1 : M Bool) (e : M RV) (vs vs1 : List Nat) : M RV := M.bind it fun ds => fun ρ1 => match lcL2 g t it1 g1 t1 e vs vs1 0 ds (wipeE ρ1 vs) with
  | .ok l ρ => .ok (.own (.lst l)) (unwipe ρ1 ρ vs)
  | _ => .bad
section
variable {K : PySem.W.Frag} {mg : Mg} {W : WX} {B : Bs} {F F1 H H1 : Hp} {σ : L2.St} {ρ ρ1 : Rho} {vs : List Nat}
/-- one turn of a comprehension -/
theorem lc_turnG {X : Cx} {F0 : Hp} {σ0 : L2.St} {is : List Nat} {g : RV → M Unit} {t : M Bool} {e : M RV} {L : Addr} {k : List D → Rho → Prop} {n : Nat} {d : D} {rest : M (List D)} {H2 H3 : Hp} {x : V} {N : Hp → Prop}
    (sr1 : SR X.K X.mg B F0 σ0 H1 ρ1) (hL : H1 L = none) (his : ∀ i ∈ is, i ∈ vs) (at_ : LcAt X.K X.mg B F1 σ vs L k n (M.bind (noexc (turn g t e d)) fun o => fun ρ => M.bind rest (fun l => M.ret (o.toList ++ l)) (wipeE ρ vs)) H2)
    (it : ∀ F2, Same F1 F2 → Same F2 H2 → ∃ F3, NewG X.K X.mg F2 H2 F3 H3 x (.val d)) (hn : n < sizeLine)
    (nx : ∀ H, LcAt X.K X.mg B F1 σ vs L k (n + 1) rest H → N H) :
    tVG X.K X.mg is g x (L2.wipe σ vs) H3 fun σ2 H2 => L2.wipe σ2 vs = L2.wipe σ vs ∧ tVT X.K X.mg (fun _ _ _ _ => False) t σ2 H2 fun b H3 =>
      if b = true then tV X.K X.mg (fun _ _ _ _ => False) e σ2 H3 fun y H4 => ∃ acc, H4 L = some (.lst acc) ∧ acc.length < sizeLine ∧ N (upd H4 L (.lst (acc ++ [y]))) else N H3 := by
  obtain ⟨F2, ρ2, acc, dacc, sr2, s2, hl, fl, ra, la, no, nv, h⟩ := at_
  obtain ⟨F3, nn⟩ := it F2 s2 sr2.same
  obtain ⟨sr3, rv3⟩ := nn.sr sr2
  have bl : B.H L = none := sr1.fresh hL
  have bf : B.F L = none := sr1.ent.free (sr1.same.free hL)
  have hl3 := nn.sH _ _ hl
  have fl3 := nn.aw L (by rw [hl]; exact True.intro) fl
  have sr4 := sr3.aside bl fl3 hl3 no
  have h := noexc_run (outcG.bind h)
  unfold turn at h
  refine ⟨_, F3, ρ2, .val d, sr4, rv3, (outcG.bind h).imp fun _ ρ3 h σ3 H4 F4 off sr5 s5 => ⟨?_, ?_⟩⟩
  · have e1 := off_wipe (vs := vs) ⟨off.1, fun j m => off.2 j fun z => m (his j z)⟩
    rw [e1, wipe_wipe]
  have wz : L2.wipe σ3 vs = L2.wipe σ vs := by
    have e1 := off_wipe (vs := vs) ⟨off.1, fun j m => off.2 j fun z => m (his j z)⟩
    rw [e1, wipe_wipe]
  refine ⟨_, F4, ρ3, sr5, (outcG.bind h).out.imp fun b ρ4 h H5 F5 sr6 s6 => ?_⟩
  cases b with
  | false =>
    rw [if_neg (by decide)] at h
    refine iteF (nx H5 ?_)
    obtain ⟨sr7, hl7, fl7, no7⟩ := SR.back sr1 bl bf sr6
    have sr8 := sr7.wipe vs
    rw [wz] at sr8
    have h : outcG (M.bind rest (fun l => M.ret ((none : Option D).toList ++ l)) (wipeE ρ4 vs)) _ := h
    refine ⟨F5, wipeE ρ4 vs, acc, dacc, sr8, ((s2.trans nn.sF).trans s5).trans s6, hl7, fl7, ((ra.same nn.sF).same s5).same s6, Nat.le_succ_of_le la, fun i o e1 e2 => ?_, fun j s e => wipeE_nv e, (outcG.bind h).imp fun l ρ' h => h⟩
    rw [← wz] at e2
    exact no7 i o (wipeE_some e1).1 (wipe_some e2).1
  | true =>
    rw [if_pos rfl] at h
    refine iteT ⟨_, F5, ρ4, sr6, (outcG.bind h).out.imp fun r ρ5 h y H6 F6 sr7 s7 rv7 => ?_⟩
    obtain ⟨sr8, hl8, fl8, no8⟩ := SR.back sr1 bl bf sr7
    refine ⟨acc, hl8, Nat.lt_of_le_of_lt la hn, nx _ ?_⟩
    -- the item stays from now on
    have one : ∃ dy F7 ρ7, SR X.K X.mg B F7 σ3 H6 ρ7 ∧ Same F6 F7 ∧ Rep X.K X.mg F7 y dy ∧ F7 L = none ∧ (∀ (i : Nat) (o' : Ob), ρ7[i]? = some (some (.own o')) → σ3[i]? ≠ some (some (.ref L))) ∧ outcG (M.bind rest (fun l => M.ret ((some dy).toList ++ l)) (wipeE ρ7 vs)) fun l ρ' => k (dacc ++ l) ρ' := by
      obtain ⟨dy, F7, ρ7, sr9, s9, rep, h⟩ := set1_run (W := fun _ _ _ _ => False) (F0 := F6) sr7 rv7 (outcG.bind h).out
      obtain ⟨sr10, hl10, fl10, no10⟩ := SR.back sr1 bl bf sr9
      exact ⟨dy, F7, ρ7, sr10, s9, rep, fl10, no10, h⟩
    obtain ⟨dy, F7, ρ7, sr9, s9, rep, fl9, no9, h⟩ := one
    have sr10 := (sr9.chg (w := .lst (acc ++ [y])) bl fl9 hl8 no9).wipe vs
    rw [wz] at sr10
    refine ⟨F7, wipeE ρ7 vs, acc ++ [y], dacc ++ [dy], sr10, ((((s2.trans nn.sF).trans s5).trans s6).trans s7).trans s9, upd_same, fl9, ((((((ra.same nn.sF).same s5).same s6).same s7).same s9).append (.cons rep .nil)), by rw [List.length_append]; exact Nat.succ_le_succ la, fun i o e1 e2 => ?_, fun j s e => wipeE_nv e, (outcG.bind h).imp fun l ρ' h => ?_⟩
    · rw [← wz] at e2
      exact no9 i o (wipeE_some e1).1 (wipe_some e2).1
    · rw [List.append_assoc]
      exact h

theorem lc2_turn {X : Cx} {is is1 : List Nat} {g g1 : RV → M Unit} {t t1 : M Bool} {it1 : M (List D)} {e : M RV} {L : Addr} {k : List D → Rho → Prop} {c n : Nat} {d : D} {ds : List D} {vs1 : List Nat} {H2 H3 : Hp} {x : V} {N : Hp → Prop}
    (sr1 : SR X.K X.mg B F1 σ H1 ρ1) (hL : H1 L = none) (his : ∀ i ∈ is, i ∈ vs) (his1 : ∀ i ∈ is1, i ∈ vs1) (hv1 : ∀ i ∈ vs1, i ∈ vs) (hc : n ≤ c) (hz : n ≤ sizeLine) (at_ : LcAt X.K X.mg B F1 σ vs L k n (lcL2 g t it1 g1 t1 e vs vs1 c (d :: ds)) H2)
    (it : ∀ F2, Same F1 F2 → Same F2 H2 → ∃ F3, NewG X.K X.mg F2 H2 F3 H3 x (.val d))
    (nx : ∀ c' n' H, n' ≤ c' → n' ≤ sizeLine → LcAt X.K X.mg B F1 σ vs L k n' (lcL2 g t it1 g1 t1 e vs vs1 c' ds) H → N H) :
    tVG X.K X.mg is g x (L2.wipe σ vs) H3 fun σ2 H2 => L2.wipe σ2 vs = L2.wipe σ vs ∧ tVT X.K X.mg (fun _ _ _ _ => False) t σ2 H2 fun b H3 =>
      if b = true then tVI X.K X.mg (fun _ _ _ _ => False) it1 σ2 H3 fun J1 H4 => ∃ W1 : Nat → Nat → Hp → Prop, (∃ m, W1 0 m H4) ∧ ∀ j k H, W1 j k H →
        (J1.stop j H ∧ N H) ∨ (J1.go j H ∧ ∃ Nx1 : Hp → Prop, (∀ H', Nx1 H' → ∃ k', k' < k ∧ W1 (j + 1) k' H') ∧ ∀ x H', J1.yld j H x H' → tVG X.K X.mg is1 g1 x (L2.wipe σ2 vs1) H' fun σ3 H5 => L2.wipe σ3 vs1 = L2.wipe σ2 vs1 ∧ tVT X.K X.mg (fun _ _ _ _ => False) t1 σ3 H5 fun b H6 =>
          if b = true then tV X.K X.mg (fun _ _ _ _ => False) e σ3 H6 fun y H7 => ∃ acc, H7 L = some (.lst acc) ∧ acc.length < sizeLine ∧ Nx1 (upd H7 L (.lst (acc ++ [y]))) else Nx1 H6)
      else N H3 := by
  obtain ⟨F2, ρ2, acc, dacc, sr2, s2, hl, fl, ra, la, no, nv, h⟩ := at_
  obtain ⟨F3, nn⟩ := it F2 s2 sr2.same
  obtain ⟨sr3, rv3⟩ := nn.sr sr2
  have bl : B.H L = none := sr1.fresh hL
  have bf : B.F L = none := sr1.ent.free (sr1.same.free hL)
  have hl3 := nn.sH _ _ hl
  have fl3 := nn.aw L (by rw [hl]; exact True.intro) fl
  have sr4 := sr3.aside bl fl3 hl3 no
  have h := noexc_run (outcG.bind h)
  unfold turn2 at h
  refine ⟨_, F3, ρ2, .val d, sr4, rv3, (outcG.bind h).imp fun _ ρ3 h σ3 H4 F4 off sr5 s5 => ⟨?_, ?_⟩⟩
  · have e1 := off_wipe (vs := vs) ⟨off.1, fun j m => off.2 j fun z => m (his j z)⟩
    rw [e1, wipe_wipe]
  have wz : L2.wipe σ3 vs = L2.wipe σ vs := by
    have e1 := off_wipe (vs := vs) ⟨off.1, fun j m => off.2 j fun z => m (his j z)⟩
    rw [e1, wipe_wipe]
  refine ⟨_, F4, ρ3, sr5, (outcG.bind h).out.imp fun b ρ4 h H5 F5 sr6 s6 => ?_⟩
  cases b with
  | false =>
    rw [if_neg (by decide)] at h
    refine iteF (nx c n H5 hc hz ?_)
    obtain ⟨sr7, hl7, fl7, no7⟩ := SR.back sr1 bl bf sr6
    have sr8 := sr7.wipe vs
    rw [wz] at sr8
    have h : outcG (M.bind (lcL2 g t it1 g1 t1 e vs vs1 c ds) (fun l => M.ret (([] : List D) ++ l)) (wipeE ρ4 vs)) _ := h
    refine ⟨F5, wipeE ρ4 vs, acc, dacc, sr8, ((s2.trans nn.sF).trans s5).trans s6, hl7, fl7, ((ra.same nn.sF).same s5).same s6, la, fun i o e1 e2 => ?_, fun j s e => wipeE_nv e, (outcG.bind h).imp fun l ρ' h => h⟩
    rw [← wz] at e2
    exact no7 i o (wipeE_some e1).1 (wipe_some e2).1
  | true =>
    rw [if_pos rfl] at h
    refine iteT ⟨_, F5, ρ4, sr6, (outcG.bind h).out.imp fun ds1 ρ5 h J1 H6 F6 sr7 s7 io1 => ?_⟩
    obtain ⟨sr8, hl8, fl8, no8⟩ := SR.back sr1 bl bf sr7
    split at h
    · rename_i zz
      have zz : c + ds1.length ≤ sizeLine := of_decide_eq_true zz
      obtain ⟨G, Y, wk, gh, zl, itn⟩ := io1
      have s06 : Same F1 F6 := (((s2.trans nn.sF).trans s5).trans s6).trans s7
      have ra6 := (((ra.same nn.sF).same s5).same s6).same s7
      refine it_over wk (Qd := N) (body := fun x Hx Nx1 => tVG X.K X.mg is1 g1 x (L2.wipe σ3 vs1) Hx fun σ4 H5 => L2.wipe σ4 vs1 = L2.wipe σ3 vs1 ∧ tVT X.K X.mg (fun _ _ _ _ => False) t1 σ4 H5 fun b H6 => if b = true then tV X.K X.mg (fun _ _ _ _ => False) e σ4 H6 fun y H7 => ∃ acc, H7 L = some (.lst acc) ∧ acc.length < sizeLine ∧ Nx1 (upd H7 L (.lst (acc ++ [y]))) else Nx1 H6)
        (fun j H => LcAt X.K X.mg B F6 σ3 vs1 L (fun dd ρ' => ∃ l0, dd = dacc ++ l0 ∧ outcG (M.bind (lcL2 g t it1 g1 t1 e vs vs1 (c + l0.length) ds) (fun l => M.ret (l0 ++ l)) (wipeE ρ' vs)) fun l ρ'' => k (dacc ++ l) ρ'') (n + j) (lcL g1 t1 e vs1 (ds1.drop j)) H) ?_ (fun i H _ ⟨F2, ρ2, acc, dacc, sr2, s2, _⟩ => gh H (s2.trans sr2.same)) ?_ ?_
      · refine ⟨F6, wipeE ρ5 vs1, acc, dacc, sr8.wipe vs1, Same.refl _, hl8, fl8, ra6, la, fun i o e1 e2 => no8 i o (wipeE_some e1).1 (wipe_some e2).1, fun j s e => wipeE_nv e, h.imp fun l0 ρ' h => ⟨l0, rfl, h⟩⟩
      · intro i x H2 H3 hi at_ y
        obtain ⟨d1, hd⟩ : ∃ d, ds1[i]? = some d := ⟨ds1[i], by simp [hi]⟩
        have e1 : ds1.drop i = d1 :: ds1.drop (i + 1) := by
          rw [List.getElem?_eq_some_iff] at hd
          obtain ⟨_, hd⟩ := hd
          rw [List.drop_eq_getElem_cons hi, hd]
        rw [e1] at at_
        exact lc_turnG sr1 hL his1 at_ (fun F2 s2 s3 => itn i d1 hd H2 x H3 y F2 s2 s3) (by omega) fun H p => p
      · rintro H ⟨F7, ρ7, acc7, dacc7, sr9, s9, hl9, fl9, ra9, la9, no9, nv9, h⟩
        rw [List.drop_length] at h
        have h : ∃ l0, dacc7 ++ [] = dacc ++ l0 ∧ _ := h
        obtain ⟨l0, ee, h⟩ := h
        rw [List.append_nil] at ee
        have w2 : L2.wipe (L2.wipe σ3 vs1) vs = L2.wipe σ vs := by
          rw [← wz]
          exact off_wipe ⟨wipe_length _ _, fun j n => wipe_out fun m => n (hv1 j m)⟩
        have sr10 := sr9.wipe vs
        rw [w2] at sr10
        have e7 := ra9.length
        rw [ee, List.length_append] at e7
        have e8 := ra.length
        refine nx (c + l0.length) acc7.length H (by omega) (by omega) ⟨F7, wipeE ρ7 vs, acc7, dacc7, sr10, s06.trans s9, hl9, fl9, ra9, Nat.le_refl _, fun i o e1 e2 => ?_, fun j s e => wipeE_nv e, (outcG.bind h).imp fun l ρ' h => ?_⟩
        · rw [← w2] at e2
          exact no9 i o (wipeE_some e1).1 (wipe_some e2).1
        · rw [ee, List.append_assoc]
          exact h
    · exact h.elim

/-- the whole of it -/
theorem lc2_all {X : Cx} {is is1 : List Nat} {g g1 : RV → M Unit} {t t1 : M Bool} {it1 : M (List D)} {e : M RV} {J : It} {ds : List D} {vs1 : List Nat} {k : List D → Rho → Prop} {Q : L2.VK} (sr1 : SR X.K X.mg B F1 σ H1 ρ1) (his : ∀ i ∈ is, i ∈ vs) (his1 : ∀ i ∈ is1, i ∈ vs1) (hv1 : ∀ i ∈ vs1, i ∈ vs) (io : ItOk X.K X.mg F1 J ds)
    (h : outcG (lcL2 g t it1 g1 t1 e vs vs1 0 ds (wipeE ρ1 vs)) k) (fin : ∀ L H F2 ρ2 acc dacc, SR X.K X.mg B F2 (L2.wipe σ vs) H ρ2 → Same F1 F2 → H L = some (.lst acc) → B.H L = none → F2 L = none → Reps X.K X.mg F2 acc dacc → acc.length ≤ sizeLine →
      (∀ (i : Nat) (o' : Ob), ρ2[i]? = some (some (.own o')) → (L2.wipe σ vs)[i]? ≠ some (some (.ref L))) → (∀ j s, ρ2[j]? = some (some s) → j ∉ vs) → k dacc ρ2 → Q (.ref L) H) (L : Addr) (hL : H1 L = none) :
    ∃ Wt : Nat → Nat → Hp → Prop, (∃ m, Wt 0 m (upd H1 L (.lst []))) ∧ ∀ i m H, Wt i m H →
      (J.stop i H ∧ Q (.ref L) H) ∨ (J.go i H ∧ ∃ Nx : Hp → Prop, (∀ H', Nx H' → ∃ m', m' < m ∧ Wt (i + 1) m' H') ∧ ∀ x H', J.yld i H x H' → tVG X.K X.mg is g x (L2.wipe σ vs) H' fun σ2 H2 => L2.wipe σ2 vs = L2.wipe σ vs ∧ tVT X.K X.mg (fun _ _ _ _ => False) t σ2 H2 fun b H3 =>
        if b = true then tVI X.K X.mg (fun _ _ _ _ => False) it1 σ2 H3 fun J1 H4 => ∃ W1 : Nat → Nat → Hp → Prop, (∃ m, W1 0 m H4) ∧ ∀ j k H, W1 j k H →
          (J1.stop j H ∧ Nx H) ∨ (J1.go j H ∧ ∃ Nx1 : Hp → Prop, (∀ H', Nx1 H' → ∃ k', k' < k ∧ W1 (j + 1) k' H') ∧ ∀ x H', J1.yld j H x H' → tVG X.K X.mg is1 g1 x (L2.wipe σ2 vs1) H' fun σ3 H5 => L2.wipe σ3 vs1 = L2.wipe σ2 vs1 ∧ tVT X.K X.mg (fun _ _ _ _ => False) t1 σ3 H5 fun b H6 =>
            if b = true then tV X.K X.mg (fun _ _ _ _ => False) e σ3 H6 fun y H7 => ∃ acc, H7 L = some (.lst acc) ∧ acc.length < sizeLine ∧ Nx1 (upd H7 L (.lst (acc ++ [y]))) else Nx1 H6)
        else Nx H3) := by
  obtain ⟨G, Y, wk, gh, zl, it⟩ := io
  refine it_over wk (Qd := fun H => Q (.ref L) H) (body := fun x H' Nx => tVG X.K X.mg is g x (L2.wipe σ vs) H' fun σ2 H2 => L2.wipe σ2 vs = L2.wipe σ vs ∧ tVT X.K X.mg (fun _ _ _ _ => False) t σ2 H2 fun b H3 =>
        if b = true then tVI X.K X.mg (fun _ _ _ _ => False) it1 σ2 H3 fun J1 H4 => ∃ W1 : Nat → Nat → Hp → Prop, (∃ m, W1 0 m H4) ∧ ∀ j k H, W1 j k H →
          (J1.stop j H ∧ Nx H) ∨ (J1.go j H ∧ ∃ Nx1 : Hp → Prop, (∀ H', Nx1 H' → ∃ k', k' < k ∧ W1 (j + 1) k' H') ∧ ∀ x H', J1.yld j H x H' → tVG X.K X.mg is1 g1 x (L2.wipe σ2 vs1) H' fun σ3 H5 => L2.wipe σ3 vs1 = L2.wipe σ2 vs1 ∧ tVT X.K X.mg (fun _ _ _ _ => False) t1 σ3 H5 fun b H6 =>
            if b = true then tV X.K X.mg (fun _ _ _ _ => False) e σ3 H6 fun y H7 => ∃ acc, H7 L = some (.lst acc) ∧ acc.length < sizeLine ∧ Nx1 (upd H7 L (.lst (acc ++ [y]))) else Nx1 H6)
        else Nx H3)
    (fun i H => ∃ c n, n ≤ c ∧ n ≤ sizeLine ∧ LcAt X.K X.mg B F1 σ vs L k n (lcL2 g t it1 g1 t1 e vs vs1 c (ds.drop i)) H) ?_ (fun i H _ ⟨c, n, _, _, F2, ρ2, acc, dacc, sr2, s2, _⟩ => gh H (s2.trans sr2.same)) ?_ ?_
  · refine ⟨0, 0, Nat.le_refl _, Nat.zero_le _, F1, wipeE ρ1 vs, [], [], (sr1.new hL).wipe vs, Same.refl _, upd_same, sr1.same.free hL, .nil, Nat.le_refl _, fun i o e1 e2 => ?_, fun j s e => wipeE_nv e, h⟩
    · obtain ⟨v, e3, a, u, rfl, _, _, q, _⟩ := sr1.slot i _ (wipeE_some e1).1
      rw [(wipe_some e2).1] at e3
      cases e3
      rw [hL] at q
      cases q
  · rintro i x H2 H3 hi ⟨c, n, hc, hz, at_⟩ y
    obtain ⟨d, hd⟩ : ∃ d, ds[i]? = some d := ⟨ds[i], by simp [hi]⟩
    have e1 : ds.drop i = d :: ds.drop (i + 1) := by
      rw [List.getElem?_eq_some_iff] at hd
      obtain ⟨_, hd⟩ := hd
      rw [List.drop_eq_getElem_cons hi, hd]
    rw [e1] at at_
    exact lc2_turn sr1 hL his his1 hv1 hc hz at_ (fun F2 s2 s3 => it i d hd H2 x H3 y F2 s2 s3) fun c' n' H q r p => ⟨c', n', q, r, p⟩
  · rintro H ⟨c, n, _, hz, F2, ρ2, acc, dacc, sr2, s2, hl, fl, ra, la, no, nv, h⟩
    rw [List.drop_length] at h
    have h : k (dacc ++ []) ρ2 := h
    rw [List.append_nil] at h
    exact fin L H F2 ρ2 acc dacc sr2 s2 hl (sr1.fresh hL) fl ra (Nat.le_trans la hz) no nv h
end
section
variable {X : Cx} {elt tg iter tg1 iter1 : Expr} {ifs ifs1 : List Expr} {scope : Scope} {own : List (Str × Nat)} {pos spos : Pos} {f f1 : M (List D)} {g g1 : RV → M Unit} {t t1 : M Bool} {e : M RV} {is is1 vs1 : List Nat}
theorem lc2_read {K : PySem.W.Frag} {mg : Mg} {W : WX} {B : Bs} {F0 F1 H1 : Hp} {σ : L2.St} {ρ1 : Rho} {vs : List Nat} {ds : List D} {Q : L2.VK} {R : Res (List D)} (sr1 : SR K mg B F1 σ H1 ρ1) (s0 : Same F0 F1)
    (h : outcome K mg W B F0 σ ((match R with
      | .ok l ρ => (.ok (.own (.lst l)) (unwipe ρ1 ρ vs) : Res RV)
      | _ => .bad)) fun r ρ' => ∀ v H' F', SR K mg B F' σ H' ρ' → Same F0 F' → RVR K mg B F' H' σ ρ' v r → Q v H') :
    outcG R fun l ρ => ∀ L H F2 acc, SR K mg B F2 (L2.wipe σ vs) H ρ → Same F1 F2 → H L = some (.lst acc) → B.H L = none → F2 L = none → Reps K mg F2 acc l → acc.length ≤ sizeLine → (∀ (i : Nat) (o' : Ob), ρ[i]? = some (some (.own o')) → (L2.wipe σ vs)[i]? ≠ some (some (.ref L))) → (∀ j s, ρ[j]? = some (some s) → j ∉ vs) → Q (.ref L) H := by
  cases q : R with
  | bad => rw [q] at h; exact h.elim
  | exc C fs ρ' => rw [q] at h; exact h.elim
  | ok l ρ =>
    rw [q] at h
    intro L H F2 acc sr2 s2 hl bl fl ra la no nv
    have sr3 := SR.unwipe sr2 sr1 s2 vs (fun _ h => h) nv
    refine h (.ref L) H F2 sr3 (s0.trans s2) ⟨L, _, rfl, bl, fl, hl, .lst la ra, fun i o' e1 e2 => ?_⟩
    have key : ∀ ws : List Nat, (unwipe ρ1 ρ ws)[i]? = some (some (.own o')) → ρ[i]? = some (some (.own o')) := by
      intro ws
      induction ws with
      | nil => exact fun z => z
      | cons w ws ih =>
        intro z
        unfold unwipe at z
        rcases get_set z with ⟨_, z⟩ | ⟨_, z⟩
        · split at z <;> cases z
        · exact ih z
    have e3 := key vs e1
    exact no i o' e3 (by rw [wipe_out (nv i _ e3)]; exact e2)
theorem ve_lc2 (hc : X.calm = true) (hN : X.N.Nodup) (hi : VI X tg iter f) (ok : BlkOk X.N X.env.scope scope own) (hv : ∀ i ∈ vs1, i ∈ own.map (·.2)) (his : ∀ i ∈ is, i ∈ own.map (·.2)) (his1 : ∀ i ∈ is1, i ∈ vs1)
    (hg : ∀ s H C cl fp, VG (bk X scope s H C cl fp) tg is g) (ht : ∀ s H C cl fp, VTs (bk X scope s H C cl fp) ifs t) (hi1 : ∀ s H C cl fp, VI (bk X scope s H C cl fp) tg1 iter1 f1) (hg1 : ∀ s H C cl fp, VG (bk X scope s H C cl fp) tg1 is1 g1) (ht1 : ∀ s H C cl fp, VTs (bk X scope s H C cl fp) ifs1 t1) (he : ∀ s H C cl fp, VE (bk X scope s H C cl fp) elt e)
    (hs : ∀ x, foldedSetIterable iter X.env x = pure x := by intro _; rfl) (hs1 : ∀ env x, foldedSetIterable iter1 env x = pure x := by intro _ _; rfl) : VE X (.ListComp elt [⟨tg, iter, ifs, 0⟩, ⟨tg1, iter1, ifs1, 0⟩] scope pos) (mLC2 f g t f1 g1 t1 e (own.map (·.2)) vs1) := by
  refine ⟨fun W tk => (pe_lc2 (g := tVG X.K X.mg is g) (tt := tVT X.K X.mg (fun _ _ _ _ => False) t) (wi1 := tVI X.K X.mg (fun _ _ _ _ => False) f1) (g1 := tVG X.K X.mg is1 g1) (tt1 := tVT X.K X.mg (fun _ _ _ _ => False) t1) (te := tV X.K X.mg (fun _ _ _ _ => False) e) hc hN (hi.run W tk) ok hv
    (fun s H C cl fp => (hg s H C cl fp).run) (fun s H C cl fp => (ht s H C cl fp).run _ takes0) (fun s H C cl fp => (hi1 s H C cl fp).run _ takes0) (fun s H C cl fp => (hg1 s H C cl fp).run) (fun s H C cl fp => (ht1 s H C cl fp).run _ takes0) (fun s H C cl fp => (he s H C cl fp).run _ takes0) hs hs1).imp fun σ H Q ⟨B, F, ρ, sr, h⟩ => ?_⟩
  refine ⟨B, F, ρ, sr, h.bind.imp fun ds ρ1 h J H1 F1 sr1 s1 io => ?_⟩
  intro L hL
  exact lc2_all sr1 his his1 hv io (lc2_read (ds := ds) sr1 s1 h) (fun L H F2 ρ2 acc dacc sr2 s2 hl bl fl ra la no nv k => k L H F2 acc sr2 s2 hl bl fl ra la no nv) L hL
end
end VE

namespace VE
open PySem PySem.Spec PyProof.Rows L2 G0
/-! ### classes -/
/-- a class of the text, by name: which fields its objects have of their own -/
structure CV (K : PySem.W.Frag) (mg : Mg) (C : Str) (fl : List Str) : Prop where
  ex : ∃ c : Addr, mg C = some (.ref c) ∧ Cls K c ∧ ∀ f ∈ fl, NoAttr K c f
section
variable {X : Cx} {k n : Nat} {fI : Addr} {fd : FuncData} {ps : List Str} {sp : Sp}
theorem run_makeV {C : Addr} {pins : List (Addr × Obj)} {σ : L2.St} {H : Hp} {s : Shared} {Q : L2.VK} {us : List Value} {vs : List V} {W : WX} (M : Mk X.K C fI) (F : FnV X.prog X.w X.K X.mg X.base k fI fd ps sp) (gd : X.A.guards = some []) (hr : Room (k + 1) X.A) (hb : Binds X.K fd ps [])
    (tk : Takes X W) (I : Inv X pins σ H s) (r : Vals vs us)
    (h : ∀ x dx, H x = none → H dx = none → dx ≠ x → sp (.ref x :: vs) (upd (upd H dx (.own x)) x (.ins C dx [])) (fun v H2 => v = .non ∧ Q (.ref x) H2) (WE W σ)) :
    wpAny (model X.prog X.w) X.A (call (.ref C) us) (EP X pins σ Q) X.xe s := by
  have hq := h (s.heap.objs.size + 1) s.heap.objs.size (I.hok.fresh (Nat.le_succ _)) (I.hok.fresh (Nat.le_refl _)) (Nat.ne_of_lt (Nat.lt_succ_self _))
  have I2 := Inv.made (C := C) I
  have r2 : Vals (V.ref (s.heap.objs.size + 1) :: vs) (Value.ref (s.heap.objs.size + 1) :: us) := .cons rfl r
  have hl : (Value.ref (s.heap.objs.size + 1) :: us).length = ps.length := by
    have e := r2.length
    rw [F.len _ _ _ _ hq] at e
    exact e.symm
  have b := hb _ (Value.ref (s.heap.objs.size + 1) :: us) I2.kIn (by rw [List.append_nil]; exact hl)
  rw [List.append_nil] at b
  refine wpAny_call (make_map (f := fI) I.kIn M.makes M.init (beq_iff_eq.mp M.fn) (codeAny_mono (F.run _ X.stack _ _ ⟨Value.ref (s.heap.objs.size + 1) :: us, []⟩ (Value.ref (s.heap.objs.size + 1) :: us) _ _ (WE W σ) (by first | exact gd | (simpa [Around.under, Code.guards, Code.isGuard, pushGuards] using gd)) (hr.make C us [])
    (I2.env0.make C us []) b r2 hq) fun r s' hq' => ?_))
  cases r with
  | error e => exact passAt tk σ pins _ _ e s' I2 hq'
  | ok fl =>
    cases fl with
    | ret u =>
      obtain ⟨v, H', I3, rv, ev, q3⟩ := I2.after hq'
      subst ev
      exact ⟨rv, ⟨V.ref (s.heap.objs.size + 1), H', I3, rfl, q3⟩⟩
    | next => exact False.elim hq'
    | brk => exact False.elim hq'
    | cont => exact False.elim hq'
end
/-! ### fields -/
section
variable {K : PySem.W.Frag} {mg : Mg} {F H : Hp} {v : V}
theorem RepT.obj_ {C : Str} {fs : List (Str × D)} (s : Same F H) (h : RepT K mg F H v (.obj C fs)) : ∃ a c dx vs, v = .ref a ∧ H a = some (.ins c dx vs) ∧ mg C = some (.ref c) ∧ RepK K mg F vs fs := by
  cases h with
  | of h =>
    cases h with
    | obj h1 h2 h3 => exact ⟨_, _, _, _, rfl, s _ _ h1, h2, h3⟩
  | @ob a u o d h1 h2 e =>
    cases o with
    | ins C' fs' =>
      cases e
      cases h2 with
      | ins m r => exact ⟨_, _, _, _, rfl, h1, m, r⟩
    | lst ys => cases e
    | dK ys => cases e
    | dT ys => cases e
theorem RepK.look {f : Str} : ∀ {vs : List (Str × V)} {ds : List (Str × D)}, RepK K mg F vs ds → (∀ d, ds.lookup f = some d → ∃ v, vs.lookup f = some v ∧ Rep K mg F v d) ∧ (ds.lookup f = none → vs.lookup f = none)
  | _, _, .nil => ⟨fun d e => (nomatch e), fun _ => rfl⟩
  | _, _, .cons (k := k) h r => by
    have ih := RepK.look (f := f) r
    simp only [List.lookup]
    cases (f == k) with
    | true => exact ⟨fun d e => by cases e; exact ⟨_, rfl, h⟩, fun e => nomatch e⟩
    | false => exact ih
def putD (f : Str) (d : D) : List (Str × D) → List (Str × D)
  | [] => [(f, d)]
  | (g, x) :: r => if g = f then (g, d) :: r else (g, x) :: putD f d r
theorem RepK.put {f : Str} {d : D} (h : Rep K mg F v d) : ∀ {vs : List (Str × V)} {ds : List (Str × D)}, RepK K mg F vs ds → RepK K mg F (putF f v vs) (putD f d ds)
  | _, _, .nil => .cons h .nil
  | _, _, .cons (k := k) a r => by
    unfold putF putD
    split
    · exact .cons h r
    · exact .cons a (RepK.put h r)
theorem RepK.len : ∀ {vs : List (Str × V)} {ds : List (Str × D)}, RepK K mg F vs ds → vs.length = ds.length
  | _, _, .nil => rfl
  | _, _, .cons _ r => congrArg (· + 1) (RepK.len r)
end
def fldOf (C f : Str) : D → Option RV
  | .obj C' fs => if C' = C then (fs.lookup f).map RV.val else none
  | _ => none
def mFld (C f : Str) (m : M RV) : M RV := mUn (fldOf C f) m
def finFld (C f : Str) (j : Nat) (d : D) : M Flow := fun ρ => match ρ[j]? with
  | some (some (.own (.ins C' fs))) => if C' = C ∧ fs.length < 1000 then .ok .nx (ρ.set j (some (.own (.ins C (putD f d fs))))) else .bad
  | some (some (.par (.ins C' fs))) => if C' = C ∧ fs.length < 1000 then .ok .nx (ρ.set j (some (.par (.ins C (putD f d fs))))) else .bad
  | _ => .bad
def sFldV (C f : Str) (j : Nat) (m : M RV) : M Flow := M.bind m fun r => M.bind (set1 r) fun d => finFld C f j d
section
variable {X : Cx} {C f y : Str} {fl : List Str} {e : Expr} {m : M RV} {pos pos' p : Pos} {j : Nat}
theorem ve_fld (T : CV X.K X.mg C fl) (he : VE X e m) (hf : f ∈ fl := by decide) (hb : attributeBase e f X.env (eval e X.env) = eval e X.env := by rfl) : VE X (.Attribute e f pos) (mFld C f m) := by
  refine ⟨fun W tk => (pe_fld (he.run W tk) hb).imp fun σ H Q ⟨B, F, ρ, sr, h⟩ => ?_⟩
  refine ⟨B, F, ρ, sr, h.bind.imp fun r ρ1 h v H1 F1 sr1 s1 rv => ?_⟩
  unfold fin1 at h
  cases q1 : cont r ρ1 with
  | none => rw [q1] at h; exact h.elim
  | some d1 =>
    rw [q1] at h
    dsimp only at h
    cases q3 : fldOf C f d1 with
    | none => rw [q3] at h; exact h.elim
    | some r3 =>
      rw [q3] at h
      unfold fldOf at q3
      split at q3
      · rename_i C' fs
        split at q3
        · rename_i ec
          subst ec
          obtain ⟨d2, l2, rfl⟩ := opt_map' q3
          obtain ⟨a, c, dx, vs, rfl, ha, hm, rk⟩ := (rv.cont sr1 q1).obj_ sr1.same
          obtain ⟨c', hm', cl, na⟩ := T.ex
          rw [hm] at hm'
          cases hm'
          obtain ⟨w, lw, rw'⟩ := rk.look.1 d2 l2
          exact ⟨a, c, dx, vs, w, rfl, ha, cl, na f hf, lw, h w H1 F1 sr1 s1 rw'⟩
        · cases q3
      · cases q3
theorem vs_fld (T : CV X.K X.mg C fl) (hN : PE X (.Name y p) (tVar j)) (he : VE X e m) (hf : f ∈ fl := by decide) (hs : swapsWith e (some (.Attribute (.Name y p) f pos')) pos.line X.env = pure false := by rfl) : VS X (.Assign [.Attribute (.Name y p) f pos'] e pos) (sFldV C f j m) := by
  refine ⟨fun W tk => (ps_fld hN (he.run W tk) hs).imp fun σ H De ⟨B, F, ρ, sr, h⟩ => ?_⟩
  refine ⟨B, F, ρ, sr, (outcS.of h).imp fun r ρ1 h v H1 F1 sr1 s1 rv => ?_⟩
  obtain ⟨d, F2, ρ2, sr2, s2, rep, h⟩ := set1_run sr1 rv (outcS.of h)
  have go : ∀ (s : Slot) (C' : Str) (fs : List (Str × D)), ρ2[j]? = some (some s) → (s = .own (.ins C' fs) ∨ s = .par (.ins C' fs)) → outcS X.K X.mg W B F (if C' = C ∧ fs.length < 1000 then .ok .nx (ρ2.set j (some (s.put (.ins C (putD f d fs))))) else .bad) (ends X.K X.mg B F De) →
      tVar j σ H1 fun x H2 => ∃ a C dx fs, x = .ref a ∧ H2 a = some (.ins C dx fs) ∧ Cls X.K C ∧ NoAttr X.K C f ∧ fs.length < 1000 ∧ De.nx σ (upd H2 a (.ins C dx (putF f v fs))) := by
    intro s C' fs q hs' h
    split at h
    · rename_i ec
      obtain ⟨ec, lz⟩ := ec
      subst ec
      obtain ⟨w, ev, _⟩ := sr2.slot j s q
      obtain ⟨a, u, rfl, fa, ha, ro, mt⟩ := sr2.mut q hs' ev
      cases ro with
      | @ins _ c dx vs _ hm rk =>
        obtain ⟨c', hm', cl, na⟩ := T.ex
        rw [hm] at hm'
        cases hm'
        exact ⟨_, ev, a, c, dx, vs, rfl, ha, cl, na f hf, by rw [rk.len]; exact lz, h σ _ F2 (mt _ _ (.ins hm (rk.put rep))) (s1.trans s2)⟩
    · exact h.elim
  unfold finFld at h
  split at h
  · rename_i C' fs q; exact go _ C' fs q (.inl rfl) h
  · rename_i C' fs q; exact go _ C' fs q (.inr rfl) h
  · exact h.elim
end
end VE

set_option pp.oneline true
namespace VE
open PySem PySem.Spec PyProof.Rows L2 G0
/-! ### new objects, methods -/
structure Iv (P : Program) (w : World) (K : PySem.W.Frag) (mg : Mg) (base : Heap) (k : Nat) (C : Str) (ps : List Str) (fn : Fn) : Prop where
  ex : ∃ (c f : Addr) (fd : FuncData), mg C = some (.ref c) ∧ Mk K c f ∧ Binds K fd ps [] ∧ FnV P w K mg base k f fd ps (spV K mg ps.length fn)
structure Mv (P : Program) (w : World) (K : PySem.W.Frag) (mg : Mg) (base : Heap) (k : Nat) (C m : Str) (ps : List Str) (fn : Fn) : Prop where
  ex : ∃ (c f : Addr) (fd : FuncData), mg C = some (.ref c) ∧ Cls K c ∧ Meth K c m f ∧ Binds K fd ps [] ∧ FnV P w K mg base k f fd ps (spV K mg ps.length fn)
def newEnd (C : Str) (ρ ρ' : Rho) : Res RV := match (ρ'[(0 : Nat)]? : Option (Option Slot)) with
  | some (some (.par (.ins C' fs))) => if C' = C then .ok (.own (.ins C fs)) ρ else .bad
  | _ => .bad
def mNew (C : Str) (n : Nat) (fn : Fn) (f : M (List RV)) : M RV := M.bind f fun rs => M.bind (settle rs) fun ds => fun ρ => if ds.length + 1 = n then (match fn (.par (.ins C []) :: ds.map Slot.val) with
  | .ok (.val .non) ρ' => newEnd C ρ ρ'
  | .exc C' fs _ => .exc C' fs ρ
  | _ => .bad) else .bad
def objOk (m : Str) (C : Str) : D → Bool
  | .obj C' fs => decide (C' = C) && (fs.lookup m).isNone
  | _ => false
def mMeth (C m : Str) (n : Nat) (fn : Fn) (f : M RV) (fs : M (List RV)) : M RV := M.bind f fun r => fun ρ => match cont r ρ with
  | some d => if objOk m C d = true then M.bind fs (fun rs => M.bind (settle (hold r :: rs)) fun ds => runF n fn (ds.map .inl)) ρ else .bad
  | none => .bad
section
variable {K : PySem.W.Frag} {mg : Mg} {B : Bs} {F F' H H' : Hp} {σ : L2.St} {ρ ρ' : Rho}
theorem argR_vals : ∀ {vs : List V} {ds : List D}, Reps K mg F vs ds → ArgR K mg F σ vs (ds.map .inl)
  | _, _, .nil => .nil
  | _, _, .cons h r => .val h (argR_vals r)
/-- the entry of __init__ -/
def newB (F H : Hp) (x dx c : Addr) : Bs := ⟨F, upd (upd H dx (.own x)) x (.ins c dx []), fun j => if j = 0 then some x else none⟩
theorem newB_par {x dx c : Addr} {i : Nat} {a : Addr} (h : (newB F H x dx c).par i = some a) : i = 0 ∧ a = x := by
  unfold newB at h
  dsimp only at h
  split at h
  · rename_i e; cases h; exact ⟨e, rfl⟩
  · cases h
theorem new_at {x dx c a : Addr} (hx : H x = none) (hd : H dx = none) {u : HO} (h : H a = some u) : (newB F H x dx c).H a = some u := by
  have n1 : a ≠ x := by rintro rfl; rw [hx] at h; cases h
  have n2 : a ≠ dx := by rintro rfl; rw [hd] at h; cases h
  show upd (upd H dx _) x _ a = _
  rw [upd_ne n1, upd_ne n2]
  exact h
theorem SR.enterNew {x dx c : Addr} {C : Str} {vs : List V} {ds : List D} (sr : SR K mg B F σ H ρ) (hx : H x = none) (hd : H dx = none) (hm : mg C = some (.ref c)) (r : Reps K mg F vs ds) :
    SR K mg (newB F H x dx c) F ((V.ref x :: vs).map some) (newB F H x dx c).H ((Slot.par (.ins C []) :: ds.map Slot.val).map some) where
  len := by simp [r.length]
  same := fun a u e => new_at hx hd (sr.same a u e)
  ent := Same.refl _
  away := fun a _ e => e
  keep := fun a u e _ => e
  pth := fun i a e => by
    obtain ⟨_, rfl⟩ := newB_par e
    have q : Nt ((newB F H a dx c).H a) := by
      show Nt (upd _ a _ a)
      rw [upd_same]
      exact True.intro
    exact ⟨q.ne, sr.same.free hx, q⟩
  pinj := fun i j a e1 e2 => (newB_par e1).1.trans (newB_par e2).1.symm
  slot := fun i s e => by
    match i, e with
    | 0, e =>
      cases e
      exact ⟨.ref x, rfl, x, _, rfl, rfl, sr.same.free hx, upd_same, .ins hm .nil⟩
    | i + 1, e =>
      have e : ((ds.map Slot.val).map some)[i]? = some (some s) := e
      rw [List.getElem?_map, List.getElem?_map] at e
      cases q : ds[i]? with
      | none => rw [q] at e; cases e
      | some d =>
        rw [q] at e
        cases e
        obtain ⟨v, e1, e2⟩ := r.getD q
        refine ⟨v, ?_, e2⟩
        show (vs.map some)[i]? = _
        rw [List.getElem?_map, e1]
        rfl
  sep := fun i j o o' a e => by
    match i, e with
    | 0, e => cases e
    | i + 1, e =>
      have e : ((ds.map Slot.val).map some)[i]? = some (some (.own o)) := e
      rw [List.getElem?_map, List.getElem?_map] at e
      cases q : ds[i]? with
      | none => rw [q] at e; cases e
      | some d => rw [q] at e; cases e
theorem SR.leaveNew {x dx c : Addr} {σ' : L2.St} (sr : SR K mg B F σ H ρ) (hx : H x = none) (hd : H dx = none) (sr2 : SR K mg (newB F H x dx c) F' σ' H' ρ') : SR K mg B F' σ H' ρ ∧ Same F F' := by
  have sF : Same F F' := sr2.ent
  have nx : ∀ a u, H a = some u → ∀ i, (newB F H x dx c).par i ≠ some a := fun a u e i z => by
    obtain ⟨_, rfl⟩ := newB_par z
    rw [hx] at e
    cases e
  refine ⟨sr.ext sF (fun a u e => sr2.keep a u (new_at hx hd e) (nx a u e)) sr2.same fun a no f => sr2.away a ?_ f, sF⟩
  cases q : H a with
  | none => exact absurd q no.ne
  | some u =>
    rw [new_at hx hd q, ← q]
    exact no
end
section
variable {X : Cx} {k n : Nat} {C m : Str} {ps : List Str} {fn : Fn} {e o : Expr} {es : List Expr} {f : M RV} {fs : M (List RV)} {p pos apos : Pos}
theorem ve_new (D : Iv X.prog X.w X.K X.mg X.base k C ps fn) (gd : X.A.guards = some []) (room : Room (k + 1) X.A) (ha : VA X (e :: es) fs)
    (gl : Gl X C := by rfl) (hdb : (C == ("__debug__" : Str)) = false := by decide) (he : starEach (e :: es) X.env = (false, eval e X.env) :: starEach es X.env := by rfl) (hpl : (backTo pos (starEach es X.env)).any (·.1) = false := by rfl) (hn : n = ps.length := by rfl) :
    VE X (.Call (.Name C p) (e :: es) [] pos) (mNew C n fn fs) := by
  obtain ⟨c, fi, fd, at_, Mk', bn, V⟩ := D.ex
  subst hn
  refine ⟨fun W tk => ⟨fun pn s σ H Q J want => ?_⟩⟩
  obtain ⟨B, F0, ρ, sr, h⟩ := want
  apply wpAny_Call_Name_kw
  refine ld_glob J gl at_ ?_ hdb
  refine PySem.W.callWith_K (h₀ := X.base) J.ok.mod.kin Mk'.kp ?_ he hpl
  have rd : tVA X.K X.mg W fs σ H fun vs H1 => ∀ x dx, H1 x = none → H1 dx = none → dx ≠ x → spV X.K X.mg ps.length fn (.ref x :: vs) (upd (upd H1 dx (.own x)) x (.ins c dx [])) (fun v H2 => v = .non ∧ Q (.ref x) H2) (WE W σ) := by
    refine ⟨B, F0, ρ, sr, h.bind.imp fun rs ρ1 h vs H1 F1 sr1 s1 rvs => ?_⟩
    obtain ⟨ds, F2, ρ2, sr2, s2, reps, h⟩ := settle_run sr1 rvs s1 h.bind
    intro x dx hx hd nd
    split at h
    · rename_i ln
      refine ⟨by rw [List.length_cons, reps.length]; exact ln, newB F2 H1 x dx c, F2, .par (.ins C []) :: ds.map Slot.val, rfl, rfl, sr2.enterNew hx hd at_ reps, ?_⟩
      cases q : fn (.par (.ins C []) :: ds.map Slot.val) with
      | bad => rw [q] at h; exact h.elim
      | exc C' gs ρ' =>
        rw [q] at h
        intro c' F' σ' H' hc sr3 s3
        obtain ⟨sr4, s4⟩ := sr2.leaveNew hx hd sr3
        exact h c' F' H' hc sr4 ((s1.trans s2).trans s4)
      | ok r ρ' =>
        rw [q] at h
        intro v σ' H' F' sr3 s3 rv
        obtain ⟨sr4, s4⟩ := sr2.leaveNew hx hd sr3
        split at h
        · rename_i z
          cases z
          unfold newEnd at h
          split at h
          · rename_i q2
            split at h
            · rename_i ec
              subst ec
              cases rv
              obtain ⟨v0, e0, a, u, rfl, hp, fa, ha', ro⟩ := sr3.slot 0 _ q2
              obtain ⟨_, rfl⟩ := newB_par hp
              refine ⟨rfl, h (.ref a) H' F' sr4 ((s1.trans s2).trans s4) ⟨a, u, rfl, sr2.fresh hx, fa, ha', ro, fun i o' e1 e2 => ?_⟩⟩
              obtain ⟨v', e3, b, w, rfl, _, _, hb, _⟩ := sr2.slot i _ e1
              rw [e3] at e2
              cases e2
              rw [hx] at hb
              cases hb
            · exact h.elim
          · exact h.elim
        · rename_i z; cases z
        · exact h.elim
    · exact h.elim
  refine thn ((ha.run W tk).run pos pn s σ H _ J rd) ?_
  rintro us s1 ⟨vs, H1, J1, rv, q⟩
  exact ⟨J1.kIn, run_makeV Mk' V gd room bn tk J1 rv q⟩
theorem meth_run (D : Mv X.prog X.w X.K X.mg X.base k C m ps fn) : ∃ (c g : Addr) (fd : FuncData), X.mg C = some (.ref c) ∧ Cls X.K c ∧ Meth X.K c m g ∧ Binds X.K fd ps [] ∧ FnV X.prog X.w X.K X.mg X.base k g fd ps (spV X.K X.mg ps.length fn) := D.ex
/-- what stands behind the object's own evaluation -/
theorem meth_read {W : WX} {c : Addr} {σ : L2.St} {H : Hp} {Q : L2.VK} {B : Bs} {F : Hp} {ρ : Rho} (hm : X.mg C = some (.ref c)) (sr : SR X.K X.mg B F σ H ρ) (h0 : outcome X.K X.mg W B F σ (mMeth C m n fn f fs ρ) fun r ρ' => ∀ v H' F', SR X.K X.mg B F' σ H' ρ' → Same F F' → RVR X.K X.mg B F' H' σ ρ' v r → Q v H') :
    tV X.K X.mg W f σ H fun x H1 => ∃ a dx gs, x = .ref a ∧ H1 a = some (.ins c dx gs) ∧ gs.lookup m = none ∧ tVA X.K X.mg W fs σ H1 fun vs H2 => spV X.K X.mg n fn (x :: vs) H2 Q (WE W σ) := by
  refine ⟨B, F, ρ, sr, h0.bind.imp fun r ρ1 h v H1 F1 sr1 s1 rv => ?_⟩
  cases q1 : cont r ρ1 with
  | none => rw [q1] at h; exact h.elim
  | some d =>
    rw [q1] at h
    dsimp only at h
    split at h
    · rename_i ok
      cases d with
      | obj C' gs =>
        obtain ⟨ec, el⟩ := Bool.and_eq_true_iff.mp ok
        have ec := of_decide_eq_true ec
        subst ec
        obtain ⟨a, c', dx, vs, rfl, ha, hm', rk⟩ := (rv.cont sr1 q1).obj_ sr1.same
        rw [hm] at hm'
        cases hm'
        obtain ⟨F2, sr2, s2, rv2⟩ := rv.hold sr1
        refine ⟨a, dx, vs, rfl, ha, rk.look.2 (Option.isNone_iff_eq_none.mp el), B, F2, ρ1, sr2, (h.mono (s1.trans s2)).bind.imp fun rs ρ2 h ws H3 F3 sr3 s3 rvs => ?_⟩
        obtain ⟨ds, F4, ρ4, sr4, s4, reps, h⟩ := settle_run sr3 (.cons (rv2.same s3) rvs) s3 h.bind
        exact runF_sp sr4 (s3.trans s4) (argR_vals reps) (h.imp fun r ρ' h v H' F' sr' s' rv => h v H' F' sr' ((s1.trans s2).trans s') rv)
      | _ => cases ok
    · exact h.elim
/-- o.m(e, ..) -/
theorem ve_meth {pl : Sem Bool} (D : Mv X.prog X.w X.K X.mg X.base k C m ps fn) (gd : X.A.guards = some []) (room : Room k X.A) (ho : VE X o f) (ha : VA X (e :: es) fs)
    (hst : starEach (e :: es) X.env = (false, eval e X.env) :: starEach es X.env := by rfl) (hpl : (backTo pos (starEach es X.env)).any (·.1) = false := by rfl) (hn : n = ps.length := by rfl)
    (ht : eval (.Call (.Attribute o m apos) (e :: es) [] pos) X.env = (do
      let ov ← eval o X.env
      standAt apos.atName
      let (f, first) ← holding [ov] (getMethod ov m pl)
      callWith pos f first (backTo pos (starEach (e :: es) X.env)) (backToKw pos (keywordEach [] X.env))) := by rfl) :
    VE X (.Call (.Attribute o m apos) (e :: es) [] pos) (mMeth C m n fn f fs) := by
  obtain ⟨c, g, fd, hm, cl, mt, bn, V⟩ := D.ex
  subst hn
  refine ⟨fun W tk => ⟨fun pn s σ H Q J want => ?_⟩⟩
  obtain ⟨B, F0, ρ, sr, h⟩ := want
  refine PySem.W.methodCall_KW (pl := pl) (thn ((ho.run W tk).run pn s σ H _ J (meth_read hm sr h)) fun u s1 ⟨x, H1, I1, rx, a, dx, gs, ex, ea, l, q⟩ => ?_) ht
  subst ex
  obtain rfl : u = Value.ref a := rx
  refine getmeth_ok I1 ea cl mt l ?_
  refine PySem.W.callWith_K (first := [.ref a]) (h₀ := X.base) J.ok.mod.kin mt.kp (thn ((ha.run W tk).run pos pn s1 σ H1 _ I1 q) fun us s2 ⟨vs, H2, I2, r, q2⟩ => ⟨I2.kIn, ?_⟩) hst hpl
  exact run_V V gd room bn tk I2 (Paired.cons (F := RelV) (a := L2.V.ref a) rfl r) q2
/-- o.m() -/
theorem ve_meth0 {pl : Sem Bool} (D : Mv X.prog X.w X.K X.mg X.base k C m ps fn) (gd : X.A.guards = some []) (room : Room k X.A) (ho : VE X o f) (hn : n = ps.length := by rfl)
    (ht : eval (.Call (.Attribute o m apos) [] [] pos) X.env = (do
      let ov ← eval o X.env
      standAt apos.atName
      let (f, first) ← holding [ov] (getMethod ov m pl)
      callWith pos f first (backTo pos (starEach [] X.env)) (backToKw pos (keywordEach [] X.env))) := by rfl) :
    VE X (.Call (.Attribute o m apos) [] [] pos) (mMeth C m n fn f mNil) := by
  obtain ⟨c, g, fd, hm, cl, mt, bn, V⟩ := D.ex
  subst hn
  refine ⟨fun W tk => ⟨fun pn s σ H Q J want => ?_⟩⟩
  obtain ⟨B, F0, ρ, sr, h⟩ := want
  refine PySem.W.methodCall_KW (pl := pl) (thn ((ho.run W tk).run pn s σ H _ J (meth_read hm sr h)) fun u s1 ⟨x, H1, I1, rx, a, dx, gs, ex, ea, l, q⟩ => ?_) ht
  subst ex
  obtain rfl : u = Value.ref a := rx
  refine getmeth_ok I1 ea cl mt l ?_
  obtain ⟨B1, F1, ρ1, sr1, h1⟩ := q
  exact PySem.W.callWith_K0 (first := [.ref a]) I1.kIn mt.kp (run_V (us := [.ref a]) V gd room bn tk I1 (Paired.cons (F := RelV) (a := L2.V.ref a) rfl .nil) (h1 [] H1 F1 sr1 (Same.refl _) .nil))
end
end VE

set_option pp.oneline true
namespace VE
open PySem PySem.Spec PyProof.Rows L2 G0
/-! ### f(e), e a new object that only f knows -/
def runT (fn : Fn) (r : RV) : M RV := fun ρ => match r with
  | .own o => (match fn [.par o] with
    | .ok (.val d) _ => .ok (.val d) ρ
    | .ok (.own o') _ => .ok (.own o') ρ
    | .exc C fs _ => .exc C fs ρ
    | _ => .bad)
  | _ => .bad
def mCallT (fn : Fn) (f : M RV) : M RV := M.bind f (runT fn)
section
variable {K : PySem.W.Frag} {mg : Mg} {B : Bs} {F F' H H' : Hp} {σ : L2.St} {ρ ρ' : Rho}
/-- the heap without p -/
def lessH (H : Hp) (p : Addr) : Hp := fun a => if a = p then none else H a
theorem less_at {p a : Addr} {u : HO} (h : lessH H p a = some u) : a ≠ p ∧ H a = some u := by
  unfold lessH at h
  split at h
  · cases h
  · rename_i n; exact ⟨n, h⟩
theorem less_of {p a : Addr} (n : a ≠ p) : lessH H p a = H a := if_neg n
theorem SR.less {p : Addr} (sr : SR K mg B F σ H ρ) (bp : B.H p = none) (fp : F p = none) (no : ∀ (i : Nat) (o' : Ob), ρ[i]? = some (some (.own o')) → σ[i]? ≠ some (some (.ref p))) : SR K mg B F σ (lessH H p) ρ where
  len := sr.len
  same := fun a u e => by rw [less_of (by rintro rfl; rw [fp] at e; cases e)]; exact sr.same a u e
  ent := sr.ent
  away := sr.away
  keep := fun a u e n => by rw [less_of (by rintro rfl; rw [bp] at e; cases e)]; exact sr.keep a u e n
  pth := fun i a e => by
    obtain ⟨h1, h2, h3⟩ := sr.pth i a e
    exact ⟨h1, h2, by rw [less_of (by rintro rfl; exact h1 bp)]; exact h3⟩
  pinj := sr.pinj
  slot := fun i s e => by
    obtain ⟨v, h1, h2⟩ := sr.slot i s e
    refine ⟨v, h1, ?_⟩
    cases s with
    | val d => exact h2
    | own o =>
      obtain ⟨a, u, rfl, k1, k2, k3, k4⟩ := h2
      exact ⟨a, u, rfl, k1, k2, by rw [less_of (by rintro rfl; exact no i o e h1)]; exact k3, k4⟩
    | par o =>
      obtain ⟨a, u, rfl, k1, k2, k3, k4⟩ := h2
      exact ⟨a, u, rfl, k1, k2, by rw [less_of (by rintro rfl; exact (sr.pth i a k1).1 bp)]; exact k3, k4⟩
  sep := sr.sep
def tmpB (F H : Hp) (p : Addr) : Bs := ⟨F, H, fun j => if j = 0 then some p else none⟩
theorem tmpB_par {p a : Addr} {i : Nat} (h : (tmpB F H p).par i = some a) : i = 0 ∧ a = p := by
  unfold tmpB at h
  dsimp only at h
  split at h
  · rename_i e; cases h; exact ⟨e, rfl⟩
  · cases h
theorem SR.enterT {p : Addr} {u : HO} {o : Ob} (sr : SR K mg B F σ H ρ) (fp : F p = none) (hp : H p = some u) (ro : RepO K mg F o u) : SR K mg (tmpB F H p) F ([V.ref p].map some) H ([Slot.par o].map some) where
  len := rfl
  same := sr.same
  ent := Same.refl _
  away := fun a _ e => e
  keep := fun a u e _ => e
  pth := fun i a e => by
    obtain ⟨_, rfl⟩ := tmpB_par e
    have q : Nt (H a) := by rw [hp]; exact ro.nt
    exact ⟨q.ne, fp, q⟩
  pinj := fun i j a e1 e2 => (tmpB_par e1).1.trans (tmpB_par e2).1.symm
  slot := fun i s e => by
    match i, e with
    | 0, e => cases e; exact ⟨.ref p, rfl, p, u, rfl, rfl, fp, hp, ro⟩
    | i + 1, e => simp at e
  sep := fun i j o o' a e => by
    match i, e with
    | 0, e => cases e
    | i + 1, e => simp at e
theorem SR.leaveT {p : Addr} {σ' : L2.St} (sr : SR K mg B F σ H ρ) (bp : B.H p = none) (fp : F p = none) (no : ∀ (i : Nat) (o' : Ob), ρ[i]? = some (some (.own o')) → σ[i]? ≠ some (some (.ref p))) (sr2 : SR K mg (tmpB F H p) F' σ' H' ρ') : SR K mg B F' σ H' ρ ∧ Same F F' := by
  have sF : Same F F' := sr2.ent
  refine ⟨(sr.less bp fp no).ext sF (fun a u e => ?_) sr2.same fun a n f => sr2.away a ?_ f, sF⟩
  · obtain ⟨ne, e⟩ := less_at e
    exact sr2.keep a u e fun i z => ne (tmpB_par z).2
  · show Nt (H a)
    unfold lessH at n
    split at n
    · exact n.elim
    · exact n
theorem runT_sp {W : WX} {F0 : Hp} {fn : Fn} {r : RV} {v : V} {Q : L2.VK} (sr : SR K mg B F σ H ρ) (s0 : Same F0 F) (rv : RVR K mg B F H σ ρ v r)
    (h : outcome K mg W B F0 σ (runT fn r ρ) fun r ρ' => ∀ v H' F', SR K mg B F' σ H' ρ' → Same F0 F' → RVR K mg B F' H' σ ρ' v r → Q v H') : spV K mg 1 fn [v] H Q (WE W σ) := by
  unfold runT at h
  cases r with
  | val d => exact h.elim
  | pl i => exact h.elim
  | own o =>
    obtain ⟨p, u, rfl, bp, fp, hp, ro, no⟩ := rv
    refine ⟨rfl, tmpB F H p, F, [.par o], rfl, rfl, sr.enterT fp hp ro, ?_⟩
    dsimp only at h
    cases q : fn [.par o] with
    | bad => rw [q] at h; exact h.elim
    | exc C' gs ρ' =>
      rw [q] at h
      intro c' F' σ' H' hc sr3 s3
      obtain ⟨sr4, s4⟩ := sr.leaveT bp fp no sr3
      exact h c' F' H' hc sr4 (s0.trans s4)
    | ok r ρ' =>
      rw [q] at h
      cases r with
      | pl i => exact h.elim
      | val d =>
        intro v σ' H' F' sr3 s3 rv
        obtain ⟨sr4, s4⟩ := sr.leaveT bp fp no sr3
        exact h v H' F' sr4 (s0.trans s4) rv
      | own o' =>
        rintro v σ' H' F' sr3 s3 ⟨a, w, rfl, k1, k2, k3, k4, _⟩
        obtain ⟨sr4, s4⟩ := sr.leaveT bp fp no sr3
        have k1 : H a = none := k1
        refine h (.ref a) H' F' sr4 (s0.trans s4) ⟨a, w, rfl, sr.fresh k1, k2, k3, k4, fun i o2 e1 e2 => ?_⟩
        obtain ⟨v', e3, b, w2, rfl, _, _, hb, _⟩ := sr.slot i _ e1
        rw [e3] at e2
        cases e2
        rw [k1] at hb
        cases hb
end
section
variable {X : Cx} {k : Nat} {x : Str} {y : Str} {st : Stmt} {p pos : Pos} {e : Expr} {f : M RV} {fn : Fn}
theorem ve_callT (D : Dv X.prog X.w X.K X.mg X.base k x st [y] fn) (gd : X.A.guards = some []) (room : Room k X.A) (ha : VE X e f)
    (gl : Gl X x := by rfl) (hdb : (x == ("__debug__" : Str)) = false := by decide) (he : starEach [e] X.env = (false, eval e X.env) :: starEach [] X.env := by rfl) (hpl : (backTo pos (starEach [] X.env)).any (·.1) = false := by rfl) :
    VE X (.Call (.Name x p) [e] [] pos) (mCallT fn f) := by
  obtain ⟨g, fd, Fn', at_, bn, V⟩ := D.ex
  refine ⟨fun W tk => ⟨fun pn s σ H Q J want => ?_⟩⟩
  obtain ⟨B, F0, ρ, sr, h⟩ := want
  apply wpAny_Call_Name_kw
  refine ld_glob J gl at_ ?_ hdb
  refine PySem.W.callWith_K (h₀ := X.base) J.ok.mod.kin Fn'.kp ?_ he hpl
  have rd : tCons (tV X.K X.mg W f) tNil σ H fun vs H1 => spV X.K X.mg 1 fn vs H1 Q (WE W σ) := by
    refine ⟨B, F0, ρ, sr, h.bind.imp fun r ρ1 h v H1 F1 sr1 s1 rv => ?_⟩
    exact runT_sp sr1 s1 rv h
  refine thn ((pa_cons (ha.run W tk) pa_nil he).run pos pn s σ H _ J rd) ?_
  rintro us s1 ⟨vs, H1, J1, rv, q⟩
  exact ⟨J1.kIn, run_V V gd room bn tk J1 rv q⟩
end
end VE

set_option pp.oneline true
namespace VE
open PySem PySem.Spec PyProof.Rows L2 G0
/-! ### a, b = e, f: new objects stay one's own -/
def mConsO (f : M RV) (g : M (List RV)) : M (List RV) := M.bind f fun r => match r with
  | .own o => M.bind g fun rs => M.ret (.own o :: rs)
  | r => M.bind (set1 r) fun d => M.bind g fun rs => M.ret (.val d :: rs)
def slotOf : RV → Option Slot
  | .val d => some (.val d)
  | .own o => some (.own o)
  | .pl _ => none
def setR : List Nat → List RV → Rho → Rho
  | i :: is, r :: rs, ρ => setR is rs (ρ.set i (slotOf r))
  | _, _, ρ => ρ
def setS : List Nat → List V → L2.St → L2.St
  | i :: is, v :: vs, σ => setS is vs (σ.set i (some v))
  | _, _, σ => σ
def sParO (is : List Nat) (f : M (List RV)) : M Flow := M.bind f fun rs => fun ρ => if rs.length = is.length then .ok .nx (setR is rs ρ) else .bad
inductive RVo (K : PySem.W.Frag) (mg : Mg) (B : Bs) (F H : Hp) (σ : L2.St) (ρ : Rho) : List V → List RV → List Addr → Prop where
  | nil : RVo K mg B F H σ ρ [] [] []
  | val {v : V} {d : D} {vs : List V} {rs : List RV} {as : List Addr} : Rep K mg F v d → RVo K mg B F H σ ρ vs rs as → RVo K mg B F H σ ρ (v :: vs) (.val d :: rs) as
  | own {p : Addr} {u : HO} {o : Ob} {vs : List V} {rs : List RV} {as : List Addr} : B.H p = none → F p = none → H p = some u → RepO K mg F o u → (∀ (i : Nat) (o' : Ob), ρ[i]? = some (some (.own o')) → σ[i]? ≠ some (some (.ref p))) → p ∉ as →
      RVo K mg B F H σ ρ vs rs as → RVo K mg B F H σ ρ (.ref p :: vs) (.own o :: rs) (p :: as)
section
variable {K : PySem.W.Frag} {mg : Mg} {B : Bs} {F F' H H' : Hp} {σ : L2.St} {ρ ρ' : Rho} {vs : List V} {rs : List RV} {as : List Addr}
theorem RVo.len (h : RVo K mg B F H σ ρ vs rs as) : vs.length = rs.length := by
  induction h with
  | nil => rfl
  | val _ _ ih => simp [ih]
  | own _ _ _ _ _ _ _ ih => simp [ih]
theorem RVo.addr (h : RVo K mg B F H σ ρ vs rs as) : ∀ a ∈ as, B.H a = none ∧ F a = none ∧ ∃ u, H a = some u := by
  induction h with
  | nil => intro a m; cases m
  | val _ _ ih => exact ih
  | own h1 h2 h3 _ _ _ _ ih =>
    intro a m
    rcases List.mem_cons.mp m with rfl | m
    · exact ⟨h1, h2, _, h3⟩
    · exact ih a m
theorem RVo.base {B' : Bs} (hb : ∀ a, B'.H a = none → B.H a = none) (h : RVo K mg B' F H σ ρ vs rs as) : RVo K mg B F H σ ρ vs rs as := by
  induction h with
  | nil => exact .nil
  | val r _ ih => exact .val r ih
  | own h1 h2 h3 h4 h5 h6 _ ih => exact .own (hb _ h1) h2 h3 h4 h5 h6 ih
theorem RVo.heap (hh : ∀ a ∈ as, H' a = H a) (h : RVo K mg B F H σ ρ vs rs as) : RVo K mg B F H' σ ρ vs rs as := by
  induction h with
  | nil => exact .nil
  | val r _ ih => exact .val r (ih hh)
  | own h1 h2 h3 h4 h5 h6 _ ih => exact .own h1 h2 ((hh _ List.mem_cons_self).trans h3) h4 h5 h6 (ih fun a m => hh a (List.mem_cons_of_mem _ m))
theorem RVo.put {i : Nat} {v : V} {s : Option Slot} (ns : ∀ o, s = some (.own o) → ∀ a ∈ as, v ≠ .ref a) (h : RVo K mg B F H σ ρ vs rs as) : RVo K mg B F H (σ.set i (some v)) (ρ.set i s) vs rs as := by
  induction h with
  | nil => exact .nil
  | val r _ ih => exact .val r (ih ns)
  | @own p u o vs rs as h1 h2 h3 h4 h5 h6 _ ih =>
    refine .own h1 h2 h3 h4 (fun j o' e e2 => ?_) h6 (ih fun o e a m => ns o e a (List.mem_cons_of_mem _ m))
    rcases get_set e with ⟨rfl, e5⟩ | ⟨ne, e5⟩
    · have lt : j < σ.length := by
        have := (List.getElem?_eq_some_iff.mp e2).1
        simpa using this
      rw [List.getElem?_set_self lt] at e2
      injection e2 with e2
      injection e2 with e2
      exact ns o' e5 p List.mem_cons_self e2
    · exact h5 j o' e5 (get_setV e2 ne)
theorem RVo.store (h : RVo K mg B F H σ ρ vs rs as) : ∀ {is : List Nat}, SR K mg B F σ H ρ → SR K mg B F (setS is vs σ) H (setR is rs ρ) := by
  suffices ∀ (vs : List V) (rs : List RV) (as : List Addr) (σ : L2.St) (ρ : Rho) (is : List Nat), RVo K mg B F H σ ρ vs rs as → SR K mg B F σ H ρ → SR K mg B F (setS is vs σ) H (setR is rs ρ) from fun {is} sr => this _ _ _ _ _ is h sr
  intro vs
  induction vs with
  | nil =>
    intro rs as σ ρ is h sr
    cases h
    cases is <;> exact sr
  | cons v vs ih =>
    intro rs as σ ρ is h sr
    cases is with
    | nil => exact sr
    | cons i is =>
      cases h with
      | val r h => exact ih _ _ _ _ is (h.put fun o z => nomatch z) (sr.setVal r)
      | own h1 h2 h3 h4 h5 h6 h =>
        refine ih _ _ _ _ is (h.put fun o z a m e => ?_) (sr.setOwn ⟨_, _, rfl, h1, h2, h3, h4, h5⟩)
        cases e
        exact h6 m
/-- an exception of a run beside a held object -/
theorem outcome.beside {α : Type} {W : WX} {m : Res α} {k : α → Rho → Prop} {p : Addr} {u : HO} {F0 H0 : Hp} {σ0 : L2.St} {ρ0 : Rho} (sr0 : SR K mg B F0 σ0 H0 ρ0) (hb : B.H p = none) (nf : B.F p = none) (h : outcome K mg W B F σ m k) (nu : Nt (some u)) : outcome K mg W ⟨B.F, upd B.H p u, B.par⟩ F σ m k := by
  cases m with
  | ok a ρ' => exact h
  | bad => exact h
  | exc C fs ρ' => exact fun c F' H' e sr s => h c F' H' e (SR.back sr0 hb nf sr nu).1 s
end
def tVAo (K : PySem.W.Frag) (mg : Mg) (W : WX) (f : M (List RV)) : TA := fun σ H Q => ∃ B F ρ, SR K mg B F σ H ρ ∧ outcome K mg W B F σ (f ρ) fun rs ρ' => ∀ vs as H' F', SR K mg B F' σ H' ρ' → Same F F' → RVo K mg B F' H' σ ρ' vs rs as → Q vs H'
structure VAo (X : Cx) (es : List Expr) (f : M (List RV)) : Prop where
  run : ∀ W, Takes X W → PA X es (tVAo X.K X.mg W f)
section
variable {X : Cx} {e : Expr} {es : List Expr} {f : M RV} {fs : M (List RV)}
theorem vo_nil : VAo X [] mNil := ⟨fun W tk => pa_nil.imp fun σ H Q ⟨B, F, ρ, sr, h⟩ => h [] [] H F sr (Same.refl _) .nil⟩
theorem vo_cons (ha : VE X e f) (hr : VAo X es fs) (hs : starEach (e :: es) X.env = (false, eval e X.env) :: starEach es X.env := by rfl) : VAo X (e :: es) (mConsO f fs) := by
  refine ⟨fun W tk => (pa_cons (ha.run W tk) (hr.run W tk) hs).imp fun σ H Q ⟨B, F, ρ, sr, h⟩ => ?_⟩
  refine ⟨B, F, ρ, sr, h.bind.imp fun r ρ1 h v H1 F1 sr1 s1 rv => ?_⟩
  have plain : ∀ (h : outcome X.K X.mg W B F σ (M.bind (set1 r) (fun d => M.bind fs fun rs => M.ret (.val d :: rs)) ρ1) fun rs ρ' => ∀ vs as H' F', SR X.K X.mg B F' σ H' ρ' → Same F F' → RVo X.K X.mg B F' H' σ ρ' vs rs as → Q vs H'), tVAo X.K X.mg W fs σ H1 fun vs H2 => Q (v :: vs) H2 := by
    intro h
    obtain ⟨d, F2, ρ2, sr2, s2, rep, h⟩ := set1_run sr1 rv h.bind
    refine ⟨B, F2, ρ2, sr2, (h.mono (s1.trans s2)).bind.imp fun rs ρ3 h vs as H3 F3 sr3 s3 rvo => ?_⟩
    exact h (v :: vs) as H3 F3 sr3 ((s1.trans s2).trans s3) (.val (rep.same s3) rvo)
  cases r with
  | val d => exact plain h
  | pl i => exact plain h
  | own o =>
    obtain ⟨p, u, rfl, bp, fp, hp, ro, no⟩ := rv
    have bf : B.F p = none := sr1.ent.free fp
    have sr2 := sr1.aside bp fp hp no
    have h := ((h.mono s1).bind).beside (u := u) sr1 bp bf ro.nt
    refine ⟨_, F1, ρ1, sr2, h.imp fun rs ρ3 h vs as H3 F3 sr3 s3 rvo => ?_⟩
    obtain ⟨sr4, hp4, fp4, no4⟩ := SR.back sr1 bp bf sr3 ro.nt
    have na : p ∉ as := fun m => by
      have q := (rvo.addr p m).1
      have q2 : upd B.H p u p = none := q
      rw [upd_same] at q2
      cases q2
    refine h (.ref p :: vs) (p :: as) H3 F3 sr4 (s1.trans s3) (.own bp fp4 hp4 (ro.same s3) no4 na (rvo.base fun a q => ?_))
    by_cases ea : a = p
    · subst ea; exact bp
    · have q : upd B.H p u a = none := q
      rwa [upd_ne ea] at q
end
section
variable {X : Cx} {fs : M (List RV)} {pos : Pos}
theorem vs_parO {i j : Nat} {x y : Str} {a b : Expr} {px py pt : Pos} {kt k2 : Nat} {pt2 : Pos} (hc : X.calm = true) (hN : X.N.Nodup) (hi : X.N[i]? = some x) (hj : X.N[j]? = some y) (hij : i ≠ j)
    (hx : X.env.scope.names.lookup x = some .local) (hy : X.env.scope.names.lookup y = some .local) (ha : VAo X [a, b] fs)
    (hw : swappedStores [.Tuple [.Name x px, .Name y py] kt pt] (.Tuple [a, b] k2 pt2) X.env = pure (some [x, y]))
    (hs : swapsWithSole [.Tuple [.Name x px, .Name y py] kt pt] (.Tuple [a, b] k2 pt2) pos.line X.env = pure false := by rfl) :
    VS X (.Assign [.Tuple [.Name x px, .Name y py] kt pt] (.Tuple [a, b] k2 pt2) pos) (sParO [i, j] fs) := by
  refine ⟨fun W tk => (ps_par hc hN hi hj hij hx hy (ha.run W tk) hw hs).imp fun σ H De ⟨B, F, ρ, sr, h⟩ => ?_⟩
  refine ⟨B, F, ρ, sr, (outcS.of h).imp fun rs ρ1 h vs as H1 F1 sr1 s1 rvo => ?_⟩
  split at h
  · rename_i ln
    have l2 : vs.length = 2 := rvo.len.trans ln
    match vs, l2, rvo with
    | [v, w], _, rvo => exact ⟨v, w, rfl, h (setS [i, j] [v, w] σ) H1 F1 (rvo.store sr1) s1⟩
  · exact h.elim
theorem vs_par3O {i j l : Nat} {x y z : Str} {a b c : Expr} {px py pz pt : Pos} {kt k2 : Nat} {pt2 : Pos} (hc : X.calm = true) (hN : X.N.Nodup) (hi : X.N[i]? = some x) (hj : X.N[j]? = some y) (hl : X.N[l]? = some z) (hij : i ≠ j) (hil : i ≠ l) (hjl : j ≠ l)
    (hx : X.env.scope.names.lookup x = some .local) (hy : X.env.scope.names.lookup y = some .local) (hz : X.env.scope.names.lookup z = some .local) (ha : VAo X [a, b, c] fs)
    (hw : swappedStores [.Tuple [.Name x px, .Name y py, .Name z pz] kt pt] (.Tuple [a, b, c] k2 pt2) X.env = pure (some [x, y, z]))
    (hs : swapsWithSole [.Tuple [.Name x px, .Name y py, .Name z pz] kt pt] (.Tuple [a, b, c] k2 pt2) pos.line X.env = pure false := by rfl) :
    VS X (.Assign [.Tuple [.Name x px, .Name y py, .Name z pz] kt pt] (.Tuple [a, b, c] k2 pt2) pos) (sParO [i, j, l] fs) := by
  refine ⟨fun W tk => (ps_par3 hc hN hi hj hl hij hil hjl hx hy hz (ha.run W tk) hw hs).imp fun σ H De ⟨B, F, ρ, sr, h⟩ => ?_⟩
  refine ⟨B, F, ρ, sr, (outcS.of h).imp fun rs ρ1 h vs as H1 F1 sr1 s1 rvo => ?_⟩
  split at h
  · rename_i ln
    have l2 : vs.length = 3 := rvo.len.trans ln
    match vs, l2, rvo with
    | [v, w, t], _, rvo => exact ⟨v, w, t, rfl, h (setS [i, j, l] [v, w, t] σ) H1 F1 (rvo.store sr1) s1⟩
  · exact h.elim
/-- the targets one after another, from a tuple that only this statement knows -/
structure NamesG (X : Cx) (es : List Expr) (is : List Nat) (t : TGs) : Prop where
  pg : PGs X es t
  of : ∀ (σ : L2.St) (H : Hp) (vs : List V) (Q : L2.St → Hp → Prop), vs.length = is.length → Q (setS is vs σ) H → t vs σ H Q
theorem ng_nil : NamesG X [] [] L2.gNil := ⟨pgs_nil, fun σ H vs Q l q => by
  match vs, l with
  | [], _ => exact ⟨rfl, q⟩⟩
theorem ng_cons {i : Nat} {x : Str} {p : Pos} {es : List Expr} {is : List Nat} {t : TGs} (hN : X.N.Nodup) (hi : X.N[i]? = some x) (hx : Loc X.env.scope x) (hr : NamesG X es is t) (hf : X.fn x = true ∨ X.env.scope.names.lookup x = some .local := by first | exact .inl rfl | exact .inr rfl | assumption)
    (hs : (assignEach (.Name x p :: es) X.env).map (·.2) = assign (.Name x p) X.env :: (assignEach es X.env).map (·.2) := by rfl) : NamesG X (.Name x p :: es) (i :: is) (L2.gCons (gName i) t) := ⟨pgs_cons (pg_name hN hi hx hf) hr.pg hs, fun σ H vs Q l q => by
  match vs, l with
  | v :: vs, l => exact ⟨v, vs, rfl, hr.of _ H vs Q (by simpa using l) q⟩⟩
theorem vs_tupO {es tg : List Expr} {is : List Nat} {t : TGs} {kt k2 : Nat} {pt pt2 : Pos} (hc : X.calm = true) (ha : VAo X es fs) (hg : NamesG X tg is t) (hz : is.length ≤ 1000 := by decide) (hs : swapsWithSole [.Tuple tg kt pt] (.Tuple es k2 pt2) pos.line X.env = pure false := by rfl) (hw : swappedStores [.Tuple tg kt pt] (.Tuple es k2 pt2) X.env = pure none := by rfl)
    (h1 : (assignEach [.Tuple tg kt pt] X.env).map (·.2) = [assign (.Tuple tg kt pt) X.env] := by rfl) (hn : (assignEach tg X.env).length = is.length := by rfl) (hst : (assignEach tg X.env).findIdx? (·.1) = none := by rfl) :
    VS X (.Assign [.Tuple tg kt pt] (.Tuple es k2 pt2) pos) (sParO is fs) := by
  refine ⟨fun W tk => (ps_asg (pe_tup (ha.run W tk)) (pg_tup hc hg.pg hn hst) hs hw h1).imp fun σ H De ⟨B, F, ρ, sr, h⟩ => ?_⟩
  refine ⟨B, F, ρ, sr, (outcS.of h).imp fun rs ρ1 h vs as H1 F1 sr1 s1 rvo => ?_⟩
  split at h
  · rename_i ln
    have l2 : vs.length = is.length := rvo.len.trans ln
    refine ⟨by rw [l2]; exact Nat.le_trans hz (by decide), fun p hp => ?_⟩
    refine ⟨p, vs, rfl, .inl (.inl upd_same), l2, hg.of _ _ vs _ l2 ?_⟩
    have r2 : RVo X.K X.mg B F1 (upd H1 p (.tup vs)) σ ρ1 vs rs as := rvo.heap fun a m => upd_ne (by
      rintro rfl
      obtain ⟨_, _, u, q⟩ := rvo.addr a m
      rw [hp] at q
      cases q)
    exact h _ _ F1 (r2.store (sr1.new hp)) s1
  · exact h.elim
end
end VE

namespace VE
open PySem PySem.Spec PyProof.Rows L2 G0
/-! ### the same, quicker to reduce -/
noncomputable def lookF (ρ : Rho) (i : Nat) : Option (Option Slot) := List.rec (motive := fun _ => Nat → Option (Option Slot)) (fun _ => none) (fun a _ ih i => Nat.rec (some a) (fun j _ => ih j) i) ρ i
theorem lookF_eq : ∀ (ρ : Rho) (i : Nat), lookF ρ i = ρ[i]?
  | [], i => by simp [lookF]
  | a :: ρ, 0 => rfl
  | a :: ρ, i + 1 => by
    have := lookF_eq ρ i
    simpa [lookF] using this
noncomputable def setF {β : Type} (ρ : Rho) (i : Nat) (s : Option Slot) (k : Rho → β) : β :=
  List.rec (motive := fun _ => Nat → (Rho → β) → β) (fun _ k => k []) (fun a t ih i k => Nat.rec (k (s :: t)) (fun j _ => ih j fun t' => k (a :: t')) i) ρ i k
theorem setF_eq {β : Type} (s : Option Slot) : ∀ (ρ : Rho) (i : Nat) (k : Rho → β), setF ρ i s k = k (ρ.set i s)
  | [], i, k => by simp [setF]
  | a :: ρ, 0, k => rfl
  | a :: ρ, i + 1, k => by
    have := setF_eq s ρ i fun t' => k (a :: t')
    simpa [setF] using this
noncomputable def mPlF (i : Nat) : M RV := fun ρ => match lookF ρ i with
  | some (some (.val d)) => .ok (.val d) ρ
  | some (some _) => .ok (.pl i) ρ
  | _ => .bad
theorem mPlF_eq (i : Nat) : mPlF i = mPl i := by
  funext ρ
  unfold mPlF mPl
  rw [lookF_eq]
  all_goals rfl
noncomputable def gNF (i : Nat) (r : RV) : M Unit := match r with
  | .val d => fun ρ => setF ρ i (some (.val d)) (.ok ())
  | .own o => fun ρ => setF ρ i (some (.own o)) (.ok ())
  | .pl j => gN i (.pl j)
theorem gNF_eq (i : Nat) : gNF i = gN i := by
  funext r
  cases r with
  | val d => funext ρ; exact setF_eq _ _ _ _
  | own d => funext ρ; exact setF_eq _ _ _ _
  | pl j => rfl
noncomputable def sAugF (i : Nat) (op : Int → Int → Int) (f : M RV) : M Flow := fun ρ => match lookF ρ i with
  | some (some (.val (.int n))) => M.bind f (fun r => fun ρ => match cont r ρ with
    | some (.int m) => setF ρ i (some (.val (.int (op n m)))) (.ok .nx)
    | _ => .bad) ρ
  | _ => .bad
theorem sAugF_eq (i : Nat) (op : Int → Int → Int) (f : M RV) : sAugF i op f = sAug i op f := by
  funext ρ
  unfold sAugF sAug
  rw [lookF_eq]
  simp only [setF_eq]
  all_goals rfl
theorem calm_gNF {i : Nat} {r : RV} : Calm (gNF i r) := by rw [gNF_eq]; exact calm_gN
section
variable {X : Cx} {e : Expr} {f : M RV} {pos : Pos}
theorem ve_vF (i : Nat) {x : Str} {pos : Pos} (hN : X.N[i]? = some x := by rfl) (hv : Vis X.env.scope x := by first | exact Or.inl rfl | exact Or.inr (Or.inl rfl) | exact Or.inr (Or.inr rfl)) (hd : (x == ("__debug__" : Str)) = false := by decide)
    (hcd : (x == ("__classdict__" : Str)) = false := by decide) : VE X (.Name x pos) (mPlF i) := by rw [mPlF_eq]; exact ve_v i hN hv hd hcd
theorem vg_nameF {i : Nat} {x : Str} (hN : X.N.Nodup) (hi : X.N[i]? = some x) (hx : Loc X.env.scope x) (hf : X.fn x = true ∨ X.env.scope.names.lookup x = some .local := by first | exact .inl rfl | exact .inr rfl | assumption) : VG X (.Name x pos) [i] (gNF i) := by rw [gNF_eq]; exact vg_name hN hi hx hf
theorem vs_setF {i : Nat} {x : Str} {pos' : Pos} (hN : X.N.Nodup) (hi : X.N[i]? = some x) (hx : Loc X.env.scope x) (he : VE X e f) (hs : swapsWith e (some (.Name x pos')) pos.line X.env = pure false := by rfl) (hf : X.fn x = true ∨ X.env.scope.names.lookup x = some .local := by first | exact .inl rfl | exact .inr rfl | assumption) :
    VS X (.Assign [.Name x pos'] e pos) (sAsg f (gNF i)) := by rw [gNF_eq]; exact vs_set hN hi hx he hs hf
theorem vs_augF {i : Nat} {x : Str} {op : Operator} {o : Int → Int → Int} {pos' : Pos} (ho : PIp X op (ipI o)) (hN : X.N.Nodup) (hi : X.N[i]? = some x) (hx : Loc X.env.scope x) (he : VE X e f)
    (hf : X.fn x = true ∨ X.env.scope.names.lookup x = some .local := by first | exact .inl rfl | exact .inr rfl | assumption) :
    VS X (.AugAssign (.Name x pos') op e pos) (sAugF i o f) := by rw [sAugF_eq]; exact vs_aug ho hN hi hx he hf
variable {elt tg iter : Expr} {ifs : List Expr} {scope : Scope} {own : List (Str × Nat)} {spos : Pos} {fl : M (List D)} {g : RV → M Unit} {t : M Bool} {em : M RV} {is : List Nat}
theorem vs_setLcF {i : Nat} {y : Str} {py : Pos} (hc : X.calm = true) (hN : X.N.Nodup) (hy : X.N[i]? = some y) (hyl : X.env.scope.names.lookup y = some .local)
    (hsw : swapsWith (.ListComp elt [⟨tg, iter, ifs, 0⟩] scope pos) (some (.Name y py)) spos.line X.env = pure true) (hi : VI X tg iter fl) (ok : BlkOk X.N X.env.scope scope own) (his : ∀ i ∈ is, i ∈ own.map (·.2))
    (hg : ∀ s H C cl fp, VG (bk X scope s H C cl fp) tg is g) (ht : ∀ s H C cl fp, VTs (bk X scope s H C cl fp) ifs t) (he : ∀ s H C cl fp, VE (bk X scope s H C cl fp) elt em)
    (hs : ∀ x, foldedSetIterable iter X.env x = pure x := by intro _; rfl) : VS X (.Assign [.Name y py] (.ListComp elt [⟨tg, iter, ifs, 0⟩] scope pos) spos) (sAsg (mLC fl g t em (own.map (·.2))) (gNF i)) := by rw [gNF_eq]; exact vs_setLc hc hN hy hyl hsw hi ok his hg ht he hs
end
end VE

namespace VE
open PySem PySem.Spec PyProof.Rows L2 G0
noncomputable section
/-! ### the pot of a law: what it draws -/
def drawM (A C P P2 S : Int) : M Flow :=
  (sSeq (sIf (mB (mOp opGt (mOp opIx (mPlF 0) (mVal (.int 0))) (mVal (.int 0)))) (sSeq (sAsg (mC bDivmod (mCons (mOp opIx (mPlF 0) (mVal (.int 0))) (mCons (mPlF 1) mNil))) (gT 2 (gCons (gSub 0 (mVal (.int 0))) (gCons (gNF 2) gNil))))
      (sRet (mPlF 2))) sNx)
    (sSeq (sAsg (mOp opMod (mC bInt (mCons (mOp opAdd (mOp opMul (mOp opIx (mPlF 0) (mVal (.int 1))) (mVal (.int A))) (mVal (.int C))) mNil)) (mVal (.int P))) (gSub 0 (mVal (.int 1))))
    (sRet (mOp opMod (mC bInt (mCons (mOp opFdiv (mOp opMod (mC bInt (mCons (mOp opMul (mOp opIx (mPlF 0) (mVal (.int 1))) (mOp opIx (mPlF 0) (mVal (.int 1)))) mNil)) (mVal (.int P2))) (mVal (.int S))) mNil)) (mPlF 1)))))
abbrev potO (a b : Int) : Ob := .lst [.int a, .int b]
theorem draw_pos {A C P P2 S a b n : Int} (h : 0 < a) (h1 : 0 < n) (h2 : n < 1073741824) :
    fnBody 3 (drawM A C P P2 S) [.par (potO a b), .val (.int n)] = .ok (.val (.int (a % n))) [some (.par (potO (a / n) b)), some (.val (.int n)), some (.val (.int (a % n)))] := by
  have e0 : decide (0 < a) = true := decide_eq_true h
  have e1 : decide (0 < n ∧ n < 1073741824) = true := decide_eq_true ⟨h1, h2⟩
  simp [Ob.d, potO, fnBody, drawM, sSeq, sIf, M.bind, mB, mOp, mPlF, lookF_eq, mVal, M.ret, fin2, hold, cont, opIx, L2.atI, opGt, rB, finB, e0, sAsg, mC, mCons, mNil, finC, conts, bDivmod, e1, gT, gCons, gSub, set1, holdsL, noexc, finSub, ixN, gNF, setF_eq, gNil, sRet, moveR]
theorem draw_zero {A C P P2 S a b n : Int} (h : ¬ 0 < a) (hn : n ≠ 0) (m1 : mulOk b A = true) (hP : P ≠ 0) (m2 : mulOk ((b * A + C).fmod P) ((b * A + C).fmod P) = true) (hP2 : P2 ≠ 0) (hS : divOk S = true) :
    fnBody 3 (drawM A C P P2 S) [.par (potO a b), .val (.int n)] = .ok (.val (.int (((((b * A + C).fmod P * (b * A + C).fmod P).fmod P2).fdiv S).fmod n))) [some (.par (potO a ((b * A + C).fmod P))), some (.val (.int n)), none] := by
  have e0 : decide (0 < a) = false := decide_eq_false h
  have e1 : decide (n ≠ 0) = true := decide_eq_true hn
  have e2 : decide (P ≠ 0) = true := decide_eq_true hP
  have e3 : decide (P2 ≠ 0) = true := decide_eq_true hP2
  have m1 : decide (b.natAbs.log2 + A.natAbs.log2 < 1000000) = true := m1
  have m2 : decide (((b * A + C).fmod P).natAbs.log2 + ((b * A + C).fmod P).natAbs.log2 < 1000000) = true := m2
  have m1 := of_decide_eq_true m1
  have m2 := of_decide_eq_true m2
  have hS : decide (S ≠ 0 ∧ S.natAbs.log2 < 9000) = true := hS
  have hS : S ≠ 0 ∧ S.natAbs.log2 < 9000 := by simpa using hS
  simp [Ob.d, potO, fnBody, drawM, sSeq, sIf, M.bind, mB, mOp, mPlF, lookF_eq, mVal, M.ret, fin2, hold, cont, opIx, L2.atI, opGt, rB, finB, h, sAsg, mC, mCons, mNil, finC, conts, gSub, set1, holdsL, noexc, finSub, ixN, gNF, setF_eq, gNil, sRet, moveR, sNx, opMul, m1, m2, rI', opAdd, bInt, opMod, hP, hP2, hn, opFdiv, hS]
/-- what a pot holds -/
structure PotOk (a b : Int) : Prop where
  a0 : 0 ≤ a
  b0 : 0 ≤ b
  b1 : b < 2147483648
theorem log2_lt {b : Int} (h0 : 0 ≤ b) (h : b < 2147483648) : b.natAbs.log2 ≤ 31 := by
  have : b.natAbs < 2 ^ 31 := by omega
  by_cases z : b.natAbs = 0
  · rw [z]; decide
  · have := (Nat.log2_lt z).mpr this
    omega
/-- a draw -/
theorem draw_ok {A C P P2 S a b n : Int} (hp : PotOk a b) (h1 : 0 < n) (h2 : n < 1073741824) (hA : 0 ≤ A ∧ A < 2147483648) (hP : 0 < P ∧ P < 2147483648) (hP2 : 0 < P2) (hS : 0 < S ∧ S < 1073741824) :
    ∃ d a' b' ρ', PotOk a' b' ∧ 0 ≤ d ∧ d < n ∧ fnBody 3 (drawM A C P P2 S) [.par (potO a b), .val (.int n)] = .ok (.val (.int d)) (some (.par (potO a' b')) :: ρ') := by
  by_cases h : 0 < a
  · exact ⟨a % n, a / n, b, _, ⟨Int.ediv_nonneg hp.a0 (Int.le_of_lt h1), hp.b0, hp.b1⟩, Int.emod_nonneg _ (by omega), Int.emod_lt_of_pos _ h1, draw_pos h h1 h2⟩
  · have f0 : 0 ≤ (b * A + C).fmod P := Int.fmod_nonneg_of_pos _ hP.1
    have f1 : (b * A + C).fmod P < P := Int.fmod_lt_of_pos _ hP.1
    have l1 := log2_lt hp.b0 hp.b1
    have l2 := log2_lt hA.1 hA.2
    have l3 := log2_lt f0 (by omega)
    exact ⟨_, a, _, _, ⟨hp.a0, f0, by omega⟩, Int.fmod_nonneg_of_pos _ h1, Int.fmod_lt_of_pos _ h1, draw_zero h (by omega) (decide_eq_true (by omega)) (by omega) (decide_eq_true (by omega)) (by omega)
      (decide_eq_true ⟨by omega, by have := log2_lt (Int.le_of_lt hS.1) (by omega : S < 2147483648); omega⟩)⟩
theorem fnBody_rt {n : Nat} {body : M Flow} {args : List Slot} {r : RV} {ρ : Rho} (h : body (args.map some ++ List.replicate (n - args.length) none) = .ok (.rt r) ρ) : fnBody n body args = .ok r ρ := by
  unfold fnBody
  rw [h]
theorem fnBody_nx {n : Nat} {body : M Flow} {args : List Slot} {ρ : Rho} (h : body (args.map some ++ List.replicate (n - args.length) none) = .ok .nx ρ) : fnBody n body args = .ok (.val .non) ρ := by
  unfold fnBody
  rw [h]
def DrawOk (G : Fn) : Prop := ∀ a b n, PotOk a b → 0 < n → n < 1073741824 → ∃ d a' b' ρ', PotOk a' b' ∧ 0 ≤ d ∧ d < n ∧ G [.par (potO a b), .val (.int n)] = .ok (.val (.int d)) (some (.par (potO a' b')) :: ρ')
/-- a def of the pot and one more -/
theorem call_pot {G : Fn} {e : M RV} {ρ ρ1 ρ2 ρ' : Rho} {r : RV} {x v : D} {o o' : Ob} (h0 : ρ[0]? = some (some (.par o))) (he : e ρ = .ok r ρ1) (hr : set1 (hold r) ρ1 = .ok x ρ2) (h2 : ρ2[0]? = some (some (.par o)))
    (hD : G [.par o, .val x] = .ok (.val v) (some (.par o') :: ρ')) : mCall 2 [true, false] G (mCons (mPlF 0) (mCons e mNil)) ρ = .ok (.val v) (ρ2.set 0 (some (.par o'))) := by
  have p0 : mPlF 0 ρ = .ok (.pl 0) ρ := by rw [mPlF_eq]; unfold mPl; rw [h0]
  have c1 : mCons (mPlF 0) (mCons e mNil) ρ = .ok [.pl 0, hold r] ρ1 := by
    simp [mCons, mNil, M.bind, M.ret, p0, he, hold]
  have q : pre [true, false] [.pl 0, hold r] ρ1 = .ok [.inr 0, .inl x] ρ2 := by
    have q1 : pre [false] [hold r] ρ1 = .ok [.inl x] ρ2 := by
      have : pre [false] [hold r] = M.bind (set1 (hold r)) fun d => M.bind (pre [] []) fun l => M.ret (.inl d :: l) := by
        cases r <;> rfl
      rw [this]
      simp [M.bind, hr, pre, M.ret]
    have : pre [true, false] [.pl 0, hold r] = M.bind (pre [false] [hold r]) fun l => M.ret (.inr 0 :: l) := rfl
    rw [this]
    simp [M.bind, q1, M.ret]
  have rr : runF 2 G [.inr 0, .inl x] ρ2 = .ok (.val v) (ρ2.set 0 (some (.par o'))) := by
    have ob : obAt ρ2 0 = some o := by unfold obAt; rw [h2]
    have mk : mkArgs ρ2 [.inr 0, .inl x] = some [.par o, .val x] := by simp [mkArgs, ob]
    have bk : backE ρ2 [.inr 0, .inl x] 0 (some (.par o') :: ρ') = some (ρ2.set 0 (some (.par o'))) := by
      simp [backE, h2, Slot.put]
    unfold runF
    rw [if_pos ⟨by simp [lent], rfl⟩, mk]
    dsimp only
    rw [hD]
    dsimp only
    rw [bk]
  show M.bind (mCons (mPlF 0) (mCons e mNil)) (fun rs => M.bind (pre [true, false] rs) fun l => runF 2 G l) ρ = _
  simp [M.bind, c1, q, rr]
def pickM (G : Fn) : M Flow := sRet (mOp opIx (mPlF 1) (mCall 2 [true, false] G (mCons (mPlF 0) (mCons (mC bLen (mCons (mPlF 1) mNil)) mNil))))
theorem pick_ok {G : Fn} (hD : DrawOk G) {a b : Int} {xs : List D} (hp : PotOk a b) (ne : 0 < xs.length) (hz : xs.length ≤ 1000000) :
    ∃ x a' b' ρ', PotOk a' b' ∧ x ∈ xs ∧ fnBody 2 (pickM G) [.par (potO a b), .val (.lst xs)] = .ok (.val x) (some (.par (potO a' b')) :: ρ') := by
  obtain ⟨d, a', b', ρ', p', d0, d1, e⟩ := hD a b xs.length hp (by omega) (by omega)
  have hs : szOk xs.length = true := decide_eq_true (Nat.le_trans hz (by decide))
  have el : mC bLen (mCons (mPlF 1) mNil) [some (.par (potO a b)), some (.val (.lst xs))] = .ok (.val (.int xs.length)) [some (.par (potO a b)), some (.val (.lst xs))] := by
    have hs := of_decide_eq_true hs
    simp [mC, mCons, mNil, M.bind, M.ret, mPlF, lookF_eq, finC, conts, cont, hold, bLen, hs]
  have c := call_pot (G := G) (ρ := [some (.par (potO a b)), some (.val (.lst xs))]) (o := potO a b) rfl el (x := .int xs.length) rfl rfl e
  have ix : xs[d.toNat]? = some xs[d.toNat] := List.getElem?_eq_getElem (by omega)
  refine ⟨xs[d.toNat], a', b', [some (.val (.lst xs))], p', List.getElem_mem _, ?_⟩
  have i1 : ixN xs.length d = some d.toNat := by unfold ixN; rw [if_pos d0, if_pos d1]
  have pk : pickM G [some (.par (potO a b)), some (.val (.lst xs))] = .ok (.rt (.val xs[d.toNat])) [some (.par (potO a' b')), some (.val (.lst xs))] := by
    have p1 : mPlF 1 [some (.par (potO a b)), some (.val (.lst xs))] = .ok (.val (.lst xs)) [some (.par (potO a b)), some (.val (.lst xs))] := rfl
    unfold pickM sRet mOp
    simp [M.bind, p1, c, fin2, hold, cont, opIx, L2.atI, i1, ix, moveR, M.ret]
  exact fnBody_rt pk
/-- the end of a pot's making: slot 1 the place, slot 2 the cell -/
def potE (A C c0 : Int) : M Flow := (sRet (mLst (mCons (mC bMax (mCons (mVal (.int 0)) (mCons (mOp opSub (mPlF 2) (mOp opPow (mVal (.int 10)) (mVal (.int 18)))) mNil))) (mCons (mOp opAdd (mOp opMod (mC bInt (mCons (mOp opAdd (mOp opAdd (mOp opMul (mOp opMod (mC bInt (mCons (mPlF 2) mNil)) (mVal (.int 2147483549))) (mVal (.int A))) (mOp opMul (mVal (.int C)) (mPlF 1))) (mVal (.int c0))) mNil)) (mVal (.int 2147483563))) (mVal (.int 1))) mNil))))
theorem potE_ok {A C c0 k c : Int} {s : Option Slot} (hA : 0 ≤ A ∧ A < 2147483648) (hC : 0 ≤ C ∧ C < 2147483648) (hk : 0 ≤ k ∧ k < 2147483648) :
    ∃ a b, PotOk a b ∧ potE A C c0 [s, some (.val (.int k)), some (.val (.int c))] = .ok (.rt (.own (potO a b))) [s, some (.val (.int k)), some (.val (.int c))] := by
  have f0 : 0 ≤ c.fmod 2147483549 := Int.fmod_nonneg_of_pos _ (by decide)
  have f1 : c.fmod 2147483549 < 2147483549 := Int.fmod_lt_of_pos _ (by decide)
  have l1 := log2_lt f0 (by omega)
  have l2 := log2_lt hA.1 hA.2
  have l3 := log2_lt hC.1 hC.2
  have l4 := log2_lt hk.1 hk.2
  have m1 : (c.fmod 2147483549).natAbs.log2 + A.natAbs.log2 < 1000000 := by omega
  have m2 : C.natAbs.log2 + k.natAbs.log2 < 1000000 := by omega
  have g0 : 0 ≤ (c.fmod 2147483549 * A + C * k + c0).fmod 2147483563 := Int.fmod_nonneg_of_pos _ (by decide)
  have g1 : (c.fmod 2147483549 * A + C * k + c0).fmod 2147483563 < 2147483563 := Int.fmod_lt_of_pos _ (by decide)
  refine ⟨if c - 10 ^ 18 > 0 then c - 10 ^ 18 else 0, (c.fmod 2147483549 * A + C * k + c0).fmod 2147483563 + 1, ⟨by split <;> omega, by omega, by omega⟩, ?_⟩
  have z2 : szOk 2 = true := by decide
  simp [potE, sRet, M.bind, M.ret, mLst, mCons, mC, mVal, mOp, mPlF, lookF_eq, mNil, fin2, hold, cont, opSub, opPow, finC, conts, bMax, opMod, bInt, opMul, m1, m2, opAdd, rI', moveR, settle, set1, potO, intsD, maxI, sizeLine]
/-! ### calls with data alone -/
def noPl : RV → Bool
  | .pl _ => false
  | _ => true
theorem runF_val {G : Fn} {ρ ρ' : Rho} {x : D} {r : RV} (hG : G [.val x] = .ok r ρ') (hr : noPl r = true) : runF 1 G [.inl x] ρ = .ok r ρ := by
  unfold runF
  rw [if_pos ⟨by simp [lent], rfl⟩]
  have mk : mkArgs ρ [.inl x] = some [.val x] := rfl
  rw [mk]
  dsimp only
  rw [hG]
  cases r with
  | pl i => cases hr
  | val d => rfl
  | own o => rfl
/-- f(e), e data -/
theorem call_val {G : Fn} {e : M RV} {ρ ρ1 ρ2 ρ' : Rho} {r0 r : RV} {x : D} (he : e ρ = .ok r0 ρ1) (hx : set1 (hold r0) ρ1 = .ok x ρ2) (hG : G [.val x] = .ok r ρ') (hr : noPl r = true) : mCall 1 [false] G (mCons e mNil) ρ = .ok r ρ2 := by
  have c1 : mCons e mNil ρ = .ok [hold r0] ρ1 := by simp [mCons, mNil, M.bind, M.ret, he]
  have q1 : pre [false] [hold r0] ρ1 = .ok [.inl x] ρ2 := by
    have : pre [false] [hold r0] = M.bind (set1 (hold r0)) fun d => M.bind (pre [] []) fun l => M.ret (.inl d :: l) := by cases r0 <;> rfl
    rw [this]
    simp [M.bind, hx, pre, M.ret]
  show M.bind (mCons e mNil) (fun rs => M.bind (pre [false] rs) fun l => runF 1 G l) ρ = _
  simp [M.bind, c1, q1, runF_val hG hr]
/-- a table in place of a function, where it says the same -/
def memo (key : D → Option RV) (G : Fn) : Fn := fun args => match args with
  | [.val d] => (match key d with
    | some r => .ok r []
    | none => G args)
  | _ => G args
theorem memo_eq {key : D → Option RV} {G : Fn} (h : ∀ d r, key d = some r → noPl r = true ∧ ∃ ρ', G [.val d] = .ok r ρ') (f : M (List RV)) : mCall 1 [false] (memo key G) f = mCall 1 [false] G f := by
  have pv : ∀ (rs : List RV) (ρ ρ' : Rho) (l : List (Sum D Nat)), pre [false] rs ρ = .ok l ρ' → l.length = 1 → ∃ d, l = [.inl d] := by
    intro rs ρ ρ' l e ln
    cases rs with
    | nil => cases e; cases ln
    | cons r rs =>
      have : pre [false] (r :: rs) = M.bind (set1 r) fun d => M.bind (pre [] rs) fun l => M.ret (.inl d :: l) := by cases r <;> rfl
      rw [this] at e
      unfold M.bind at e
      split at e
      · rename_i d ρ1 e1
        dsimp only at e
        split at e
        · rename_i l2 ρ2 e2
          cases e
          cases l2 with
          | nil => exact ⟨d, rfl⟩
          | cons a l2 => simp at ln
        · cases e
        · cases e
      · cases e
      · cases e
  have run : ∀ (ρ : Rho) (d : D), runF 1 (memo key G) [.inl d] ρ = runF 1 G [.inl d] ρ := by
    intro ρ d
    cases q : key d with
    | none =>
      have : memo key G [.val d] = G [.val d] := by simp [memo, q]
      unfold runF
      have mk : mkArgs ρ [.inl d] = some [.val d] := rfl
      rw [mk]
      dsimp only
      rw [this]
    | some r =>
      obtain ⟨np, ρ', e⟩ := h d r q
      have m : memo key G [.val d] = .ok r [] := by simp [memo, q]
      rw [runF_val m np, runF_val e np]
  funext ρ
  show M.bind f (fun rs => M.bind (pre [false] rs) fun l => runF 1 (memo key G) l) ρ = M.bind f (fun rs => M.bind (pre [false] rs) fun l => runF 1 G l) ρ
  unfold M.bind
  cases f ρ with
  | bad => rfl
  | exc C fs ρ1 => rfl
  | ok rs ρ1 =>
    dsimp only
    cases q : pre [false] rs ρ1 with
    | bad => rfl
    | exc C fs ρ2 => rfl
    | ok l ρ2 =>
      dsimp only
      by_cases ln : l.length = 1
      · obtain ⟨d, rfl⟩ := pv rs ρ1 ρ2 l q ln
        exact run ρ2 d
      · have no : ∀ G : Fn, runF 1 G l ρ2 = .bad := fun G => by
          unfold runF
          rw [if_neg fun z => ln z.2]
        rw [no, no]
end
end VE

namespace VE
open PySem PySem.Spec PyProof.Rows L2 G0
/-! ### xs[::-1] -/
def opRev : D → Option RV
  | .lst xs => some (.own (.lst xs.reverse))
  | _ => none
/-- a display of a dict without items -/
def mDict0 : M RV := M.ret (.own (.dK []))
section
variable {X : Cx} {e : Expr} {m : M RV} {k : Nat} {p1 p2 p3 pos : Pos}
theorem ve_rev (he : VE X e m) : VE X (.Subscript e (.Slice none none (some (.UnaryOp .USub (.Constant (.int 1) k p1) p2)) p3) pos) (mUn opRev m) := by
  refine ⟨fun W tk => (pe_revL (he.run W tk)).imp fun σ H Q ⟨B, F, ρ, sr, h⟩ => ?_⟩
  refine ⟨B, F, ρ, sr, h.bind.imp fun r ρ1 h v H1 F1 sr1 s1 rv => ?_⟩
  unfold fin1 at h
  cases q1 : cont r ρ1 with
  | none => rw [q1] at h; exact h.elim
  | some d1 =>
    rw [q1] at h
    dsimp only at h
    cases q3 : opRev d1 with
    | none => rw [q3] at h; exact h.elim
    | some r3 =>
      rw [q3] at h
      unfold opRev at q3
      split at q3
      · rename_i xs
        cases q3
        obtain ⟨a, vs, rfl, k1, z, rr⟩ := (rv.cont sr1 q1).lst_ sr1.same
        refine ⟨a, vs, rfl, k1.sq, fun p hp => ?_⟩
        have n : NewG X.K X.mg F1 H1 F1 (upd H1 p (.lst vs.reverse)) (.ref p) (.own (.lst xs.reverse)) := .own sr1.same hp (.lst (by rw [List.length_reverse]; exact z) rr.reverse)
        obtain ⟨sr2, rv2⟩ := n.sr sr1
        exact h _ _ _ sr2 s1 rv2
      · cases q3
theorem ve_dict0 : VE X (.Dict [] [] pos) mDict0 := by
  refine ⟨fun W tk => pe_dnewK.imp fun σ H Q ⟨B, F, ρ, sr, h⟩ => ?_⟩
  intro p hp
  have n : NewG X.K X.mg F H F (upd H p (.dK [])) (.ref p) (.own (.dK [])) := .own sr.same hp (.dK .nil)
  obtain ⟨sr2, rv2⟩ := n.sr sr
  exact h _ _ _ sr2 (Same.refl _) rv2
end
end VE

set_option pp.oneline false
namespace VE
open PySem PySem.Spec PyProof.Rows L2 G0
noncomputable section
theorem seq_nx {f g : M Flow} {ρ ρ' : Rho} {r : Res Flow} (h : f ρ = .ok .nx ρ') (h2 : g ρ' = r) : sSeq f g ρ = r := by
  unfold sSeq
  rw [h]
  exact h2
/-! ### what comes of each construct -/
theorem bind_ok {α β : Type} {m : M α} {f : α → M β} {ρ ρ1 : Rho} {a : α} (h : m ρ = .ok a ρ1) : M.bind m f ρ = f a ρ1 := by
  unfold M.bind
  rw [h]
theorem asg_val {f : M RV} {g : RV → M Unit} {ρ ρ1 ρ2 : Rho} {r : RV} (h : f ρ = .ok r ρ1) (h2 : g r ρ1 = .ok () ρ2) : sAsg f g ρ = .ok .nx ρ2 := by
  unfold sAsg
  rw [bind_ok h, bind_ok h2]
  rfl
theorem op_ok {op : D → D → Option RV} {f g : M RV} {ρ ρ1 ρ2 : Rho} {r1 r2 r : RV} {d1 d2 : D} (h1 : f ρ = .ok r1 ρ1) (h2 : g ρ1 = .ok r2 ρ2) (e1 : cont (hold r1) ρ2 = some d1) (e2 : cont r2 ρ2 = some d2) (e : op d1 d2 = some r) : mOp op f g ρ = .ok r ρ2 := by
  unfold mOp
  rw [bind_ok h1, bind_ok h2]
  unfold fin2
  simp only [e1, e2, e]
theorem consO_own {f : M RV} {g : M (List RV)} {ρ ρ1 ρ2 : Rho} {o : Ob} {rs : List RV} (h : f ρ = .ok (.own o) ρ1) (h2 : g ρ1 = .ok rs ρ2) : mConsO f g ρ = .ok (.own o :: rs) ρ2 := by
  show M.bind f _ ρ = _
  rw [bind_ok h]
  dsimp only
  rw [bind_ok h2]
  rfl
theorem consO_val {f : M RV} {g : M (List RV)} {ρ ρ1 ρ2 : Rho} {d : D} {rs : List RV} (h : f ρ = .ok (.val d) ρ1) (h2 : g ρ1 = .ok rs ρ2) : mConsO f g ρ = .ok (.val d :: rs) ρ2 := by
  show M.bind f _ ρ = _
  rw [bind_ok h]
  dsimp only
  rw [bind_ok (m := set1 (.val d)) (a := d) (ρ1 := ρ1) rfl, bind_ok h2]
  rfl
theorem parO_ok {is : List Nat} {f : M (List RV)} {ρ ρ1 : Rho} {rs : List RV} (h : f ρ = .ok rs ρ1) (hl : rs.length = is.length) : sParO is f ρ = .ok .nx (setR is rs ρ1) := by
  unfold sParO
  rw [bind_ok h, if_pos hl]
/-- the pot of a law -/
def potM (A0 B0 A C c0 : Int) : M Flow :=
  (sSeq (sAsg (mOp opAdd (mOp opMul (mVal (.int A0)) (mPlF 1)) (mVal (.int B0))) (gNF 2))
    (sSeq (sIf (mB (mOp opLt (mPlF 1) (mC bLen (mCons (mPlF 0) mNil)))) (sAsg (mC bAbs (mCons (mOp opIx (mPlF 0) (mPlF 1)) mNil)) (gNF 2)) sNx)
    (potE A C c0)))
theorem pot_ok {A0 B0 A C c0 : Int} {ns : List Int} {k : Nat} (hl : ns.length ≤ 63) (hk : k < 2147483648) (hA0 : 0 ≤ A0 ∧ A0 < 2147483648) (hA : 0 ≤ A ∧ A < 2147483648) (hC : 0 ≤ C ∧ C < 2147483648) :
    ∃ a b ρ', PotOk a b ∧ fnBody 3 (potM A0 B0 A C c0) [.val (.lst (ns.map D.int)), .val (.int (k : Int))] = .ok (.own (potO a b)) ρ' := by
  have k0 : (0 : Int) ≤ k := Int.natCast_nonneg k
  have k1 : (k : Int) < 2147483648 := by omega
  have l2 := log2_lt hA0.1 hA0.2
  have l4 := log2_lt k0 k1
  have m1 : A0.natAbs.log2 + k.log2 < 1000000 := by
    have : ((k : Int).natAbs) = k := rfl
    rw [this] at l4
    omega
  have s1 : (sAsg (mOp opAdd (mOp opMul (mVal (.int A0)) (mPlF 1)) (mVal (.int B0))) (gNF 2)) [some (.val (.lst (ns.map D.int))), some (.val (.int (k : Int))), none] = .ok .nx [some (.val (.lst (ns.map D.int))), some (.val (.int (k : Int))), some (.val (.int (A0 * k + B0)))] := by
    simp [sAsg, mOp, M.bind, mVal, M.ret, mPlF, lookF_eq, fin2, hold, cont, opMul, m1, opAdd, rI', gNF, setF_eq]
  have hz : (ns.map D.int).length ≤ sizeLine := by rw [List.length_map]; exact Nat.le_trans hl (by decide)
  have hb : bLen [.lst (ns.map D.int)] = some (.val (.int ns.length)) := by show some (RV.val (D.int ((ns.map D.int).length : Nat))) = _; rw [List.length_map]
  have key : ∃ c : Int, (sIf (mB (mOp opLt (mPlF 1) (mC bLen (mCons (mPlF 0) mNil)))) (sAsg (mC bAbs (mCons (mOp opIx (mPlF 0) (mPlF 1)) mNil)) (gNF 2)) sNx) [some (.val (.lst (ns.map D.int))), some (.val (.int (k : Int))), some (.val (.int (A0 * k + B0)))] = .ok .nx [some (.val (.lst (ns.map D.int))), some (.val (.int (k : Int))), some (.val (.int c))] := by
    by_cases h : k < ns.length
    · have h' : decide ((k : Int) < ns.length) = true := decide_eq_true (by omega)
      have ix : ixN ns.length (k : Int) = some k := by unfold ixN; rw [if_pos k0]; simp [h]
      refine ⟨if ns[k] < 0 then -ns[k] else ns[k], ?_⟩
      simp [sIf, mB, mOp, M.bind, mPlF, lookF_eq, hb, fin2, hold, cont, opLt, rB, finB, h, sAsg, mC, mCons, mNil, M.ret, opIx, L2.atI, ix, finC, conts, bAbs, gNF, setF_eq]
    · refine ⟨A0 * k + B0, ?_⟩
      have h' : ¬ (k : Int) < ns.length := by omega
      simp [sIf, mB, mOp, M.bind, mPlF, lookF_eq, hb, fin2, hold, cont, opLt, rB, finB, h, sNx, M.ret, mC, mCons, mNil, finC, conts]
  obtain ⟨c, s2⟩ := key
  obtain ⟨a, b, p, s3⟩ := potE_ok (A := A) (C := C) (c0 := c0) (k := (k : Int)) (c := c) (s := some (.val (.lst (ns.map D.int)))) hA hC ⟨k0, k1⟩
  exact ⟨a, b, _, p, fnBody_rt (seq_nx s1 (seq_nx s2 s3))⟩
def lawM (R P : Fn) : M Flow := sRet (mCallT R (mCall 2 [false, false] P (mCons (mPlF 0) (mCons (mVal (.int 0)) mNil))))
theorem law_of {R P : Fn} {s : D} {o : Ob} {ρ1 ρ2 : Rho} (hP : P [.val s, .val (.int 0)] = .ok (.own o) ρ1) (hR : R [.par o] = .ok (.val (.bl true)) ρ2) : ∃ ρ, fnBody 1 (lawM R P) [.val s] = .ok (.val (.bl true)) ρ := by
  refine ⟨[some (.val s)], fnBody_rt ?_⟩
  simp [lawM, sRet, mCallT, mCall, mCons, M.bind, mPlF, lookF_eq, mVal, M.ret, mNil, hold, pre, set1, runF, lent, mkArgs, hP, backE, runT, hR, moveR]
theorem callK_val {G : Fn} {e : M RV} {ρ ρ1 ρ2 ρ' : Rho} {r0 r : RV} {x : D} (he : e ρ = .ok r0 ρ1) (hx : set1 (hold r0) ρ1 = .ok x ρ2) (hG : G [.val x] = .ok r ρ') (hr : noPl r = true) : mCallK 1 [0] [false] G (mCons e mNil) ρ = .ok r ρ2 := by
  have c1 : mCons e mNil ρ = .ok [hold r0] ρ1 := by simp [mCons, mNil, M.bind, M.ret, he]
  have q1 : pre [false] [hold r0] ρ1 = .ok [.inl x] ρ2 := by
    have : pre [false] [hold r0] = M.bind (set1 (hold r0)) fun d => M.bind (pre [] []) fun l => M.ret (.inl d :: l) := by cases r0 <;> rfl
    rw [this]
    simp [M.bind, hx, pre, M.ret]
  show M.bind (mCons e mNil) (fun rs => M.bind (pre [false] rs) fun l => if l.length = 1 then runF 1 G ([0].filterMap fun i => l[i]?) else fun _ => .bad) ρ = _
  simp [M.bind, c1, q1, runF_val hG hr]
/-- e.m(), e a new object -/
theorem meth_own {C m : Str} {G : Fn} {e : M RV} {ρ ρ1 ρ' : Rho} {o : Ob} {r : RV} (he : e ρ = .ok (.own o) ρ1) (ok : objOk m C o.d = true) (hG : G [.val o.d] = .ok r ρ') (hr : noPl r = true) : mMeth C m 1 G e mNil ρ = .ok r ρ1 := by
  show M.bind e _ ρ = _
  simp [M.bind, he, cont, ok, mNil, M.ret, settle, hold, set1, runF_val hG hr]
end
end VE

namespace VE
open PySem PySem.Spec PyProof.Rows L2 G0
/-! ### zip of three of one length, one name as target: the tuple handed out last may stand or not -/
abbrev ZipG (h : Heap) (z TI TO : Addr) (x : Value) (f : Bool) : Prop := h.get? z = some { cls := .type "zip", dict := none, data := .fields #[x, .bool f, .bool false, .ref TI, .ref TO], slots := #[] }
structure Fz (z TI TO i1 i2 i3 : Addr) (St1 St2 St3 : Nat → Heap → Prop) (b : Heap) (N : Nat) (x : Value) (f : Bool) (a : Array Value) (j1 j2 j3 : Nat) (g : Heap) : Prop where
  hz : ZipG g z TI TO x f
  ht : g.get? TO = some { cls := .type "tuple", data := .seq a }
  s1 : St1 j1 g
  s2 : St2 j2 g
  s3 : St3 j3 g
  hk : ∀ c o, c ≠ z → c ≠ TO → c ≠ i1 → c ≠ i2 → c ≠ i3 → b.get? c = some o → g.get? c = some o
  hn : g.objs.size = N
section
variable {prog : Program} {w : World} {A : Around} {E : Value → Shared → Prop} {s : Shared} {z TI TO i1 i2 i3 : Addr} {fp1 fp2 fp3 : List Addr} {n1 n2 n3 j1 j2 j3 i N : Nat} {P1 P2 P3 : Nat → Value → Prop} {St1 St2 St3 : Nat → Heap → Prop}
  {b g : Heap} {x y : Value} {f f' : Bool} {a : Array Value}
theorem Fz.draw1 {Q : Value → Shared → Prop} (S : ZipSep3 z TI TO i1 i2 i3 fp1 fp2 fp3) (D1 : Draws prog w A i1 fp1 n1 P1 St1) (D2 : Draws prog w A i2 fp2 n2 P2 St2) (D3 : Draws prog w A i3 fp3 n3 P3 St3)
    (F : Fz z TI TO i1 i2 i3 St1 St2 St3 b N x f a j1 j2 j3 s.heap) (lt : j1 < n1) (h : ∀ u g tk, P1 j1 u → Fz z TI TO i1 i2 i3 St1 St2 St3 b N x f a (j1 + 1) j2 j3 g → Q u { s with heap := g, toks := tk }) :
    wpAny (model prog w) A (Builtin.SmallTypes.nextOf (.ref i1)) Q E s :=
  D1.item j1 s Q E lt F.s1 fun u g tk hu hn hs => h u g tk hu ⟨hs.extBut _ _ S.zi1 F.hz, hs.extBut _ _ S.Ti1 F.ht, hn, D2.over F.s2 hs S.sep1_2, D3.over F.s3 hs S.sep1_3, fun c o c0 cT c1 c2 c3 e => hs.extBut _ _ c1 (F.hk c o c0 cT c1 c2 c3 e), hs.1.trans F.hn⟩
theorem Fz.draw2 {Q : Value → Shared → Prop} (S : ZipSep3 z TI TO i1 i2 i3 fp1 fp2 fp3) (D1 : Draws prog w A i1 fp1 n1 P1 St1) (D2 : Draws prog w A i2 fp2 n2 P2 St2) (D3 : Draws prog w A i3 fp3 n3 P3 St3)
    (F : Fz z TI TO i1 i2 i3 St1 St2 St3 b N x f a j1 j2 j3 s.heap) (lt : j2 < n2) (h : ∀ u g tk, P2 j2 u → Fz z TI TO i1 i2 i3 St1 St2 St3 b N x f a j1 (j2 + 1) j3 g → Q u { s with heap := g, toks := tk }) :
    wpAny (model prog w) A (Builtin.SmallTypes.nextOf (.ref i2)) Q E s :=
  D2.item j2 s Q E lt F.s2 fun u g tk hu hn hs => h u g tk hu ⟨hs.extBut _ _ S.zi2 F.hz, hs.extBut _ _ S.Ti2 F.ht, D1.over F.s1 hs S.sep2_1, hn, D3.over F.s3 hs S.sep2_3, fun c o c0 cT c1 c2 c3 e => hs.extBut _ _ c2 (F.hk c o c0 cT c1 c2 c3 e), hs.1.trans F.hn⟩
theorem Fz.draw3 {Q : Value → Shared → Prop} (S : ZipSep3 z TI TO i1 i2 i3 fp1 fp2 fp3) (D1 : Draws prog w A i1 fp1 n1 P1 St1) (D2 : Draws prog w A i2 fp2 n2 P2 St2) (D3 : Draws prog w A i3 fp3 n3 P3 St3)
    (F : Fz z TI TO i1 i2 i3 St1 St2 St3 b N x f a j1 j2 j3 s.heap) (lt : j3 < n3) (h : ∀ u g tk, P3 j3 u → Fz z TI TO i1 i2 i3 St1 St2 St3 b N x f a j1 j2 (j3 + 1) g → Q u { s with heap := g, toks := tk }) :
    wpAny (model prog w) A (Builtin.SmallTypes.nextOf (.ref i3)) Q E s :=
  D3.item j3 s Q E lt F.s3 fun u g tk hu hn hs => h u g tk hu ⟨hs.extBut _ _ S.zi3 F.hz, hs.extBut _ _ S.Ti3 F.ht, D1.over F.s1 hs S.sep3_1, D2.over F.s2 hs S.sep3_2, hn, fun c o c0 cT c1 c2 c3 e => hs.extBut _ _ c3 (F.hk c o c0 cT c1 c2 c3 e), hs.1.trans F.hn⟩
theorem Fz.put {k : Nat} {u : Value} (h3 : a.size = 3) {Q : Unit → Shared → Prop} (S : ZipSep3 z TI TO i1 i2 i3 fp1 fp2 fp3) (D1 : Draws prog w A i1 fp1 n1 P1 St1) (D2 : Draws prog w A i2 fp2 n2 P2 St2) (D3 : Draws prog w A i3 fp3 n3 P3 St3)
    (F : Fz z TI TO i1 i2 i3 St1 St2 St3 b N x f a j1 j2 j3 s.heap) (h : ∀ g, Fz z TI TO i1 i2 i3 St1 St2 St3 b N x f (a.setIfInBounds k u) j1 j2 j3 g → Q () { s with heap := g }) :
    wpAny (model prog w) A (updateSeq TO (·.setIfInBounds k u)) Q E s := by
  have key : ∀ g, Heap.SameBut TO s.heap g → g.get? TO = some { cls := .type "tuple", data := .seq (a.setIfInBounds k u) } → Q () { s with heap := g } := fun g hs e =>
    h g ⟨hs.extBut _ _ S.TOz.symm F.hz, e, D1.over F.s1 hs S.Tf1, D2.over F.s2 hs S.Tf2, D3.over F.s3 hs S.Tf3, fun c o c0 cT c1 c2 c3 e => hs.extBut _ _ cT (F.hk c o c0 cT c1 c2 c3 e), hs.1.trans F.hn⟩
  refine wpAny_updateSeq F.ht rfl (key _ (Heap.SameBut.update ..) ?_) (by rw [h3]; decide) (by rw [Array.size_setIfInBounds, h3]; decide)
  rw [Heap.get?_update_self _ F.ht rfl]; simp [Obj.mapSeq]
theorem Fz.set0 {Q : Unit → Shared → Prop} (S : ZipSep3 z TI TO i1 i2 i3 fp1 fp2 fp3) (D1 : Draws prog w A i1 fp1 n1 P1 St1) (D2 : Draws prog w A i2 fp2 n2 P2 St2) (D3 : Draws prog w A i3 fp3 n3 P3 St3)
    (F : Fz z TI TO i1 i2 i3 St1 St2 St3 b N x f a j1 j2 j3 s.heap) (h : ∀ g, Fz z TI TO i1 i2 i3 St1 St2 St3 b N y f a j1 j2 j3 g → Heap.SameBut z s.heap g → Q () { s with heap := g }) :
    wpAny (model prog w) A (setField (.ref z) 0 y) Q E s :=
  wpAny_setField_rec F.hz (by simp) fun g hz hs => h g ⟨hz, hs.extBut _ _ S.TOz F.ht, D1.over F.s1 hs S.zf1, D2.over F.s2 hs S.zf2, D3.over F.s3 hs S.zf3, fun c o c0 cT c1 c2 c3 e => hs.extBut _ _ c0 (F.hk c o c0 cT c1 c2 c3 e), hs.1.trans F.hn⟩ hs
theorem Fz.set1 {Q : Unit → Shared → Prop} (S : ZipSep3 z TI TO i1 i2 i3 fp1 fp2 fp3) (D1 : Draws prog w A i1 fp1 n1 P1 St1) (D2 : Draws prog w A i2 fp2 n2 P2 St2) (D3 : Draws prog w A i3 fp3 n3 P3 St3)
    (F : Fz z TI TO i1 i2 i3 St1 St2 St3 b N x f a j1 j2 j3 s.heap) (h : ∀ g, Fz z TI TO i1 i2 i3 St1 St2 St3 b N x f' a j1 j2 j3 g → Heap.SameBut z s.heap g → Q () { s with heap := g }) :
    wpAny (model prog w) A (setField (.ref z) 1 (.bool f')) Q E s :=
  wpAny_setField_rec F.hz (by simp) fun g hz hs => h g ⟨hz, hs.extBut _ _ S.TOz F.ht, D1.over F.s1 hs S.zf1, D2.over F.s2 hs S.zf2, D3.over F.s3 hs S.zf3, fun c o c0 cT c1 c2 c3 e => hs.extBut _ _ c0 (F.hk c o c0 cT c1 c2 c3 e), hs.1.trans F.hn⟩ hs
theorem Fz.push {o : Obj} (D1 : Draws prog w A i1 fp1 n1 P1 St1) (D2 : Draws prog w A i2 fp2 n2 P2 St2) (D3 : Draws prog w A i3 fp3 n3 P3 St3) (F : Fz z TI TO i1 i2 i3 St1 St2 St3 b N x f a j1 j2 j3 g) :
    Fz z TI TO i1 i2 i3 St1 St2 St3 b (N + 1) x f a j1 j2 j3 (g.push o) where
  hz := Heap.get?_push_of_some _ F.hz
  ht := Heap.get?_push_of_some _ F.ht
  s1 := D1.frame _ _ _ F.s1 fun _ _ _ e => Heap.get?_push_of_some _ e
  s2 := D2.frame _ _ _ F.s2 fun _ _ _ e => Heap.get?_push_of_some _ e
  s3 := D3.frame _ _ _ F.s3 fun _ _ _ e => Heap.get?_push_of_some _ e
  hk := fun c o c0 cT c1 c2 c3 e => Heap.get?_push_of_some _ (F.hk c o c0 cT c1 c2 c3 e)
  hn := by rw [Heap.size_push, F.hn]
theorem alive_at {t : Addr} {Q : Option Obj → Shared → Prop} (h : Q (s.heap.get? t) s) : wpAny (model prog w) A (loadIfAlive t) Q E s := fun _ _ _ => h
/-- what the zip keeps of the tuple handed out last -/
def Kept (x : Value) : Prop := x = .none ∨ ∃ T : Addr, x = rawInt T
/-- whether the owned tuple is free -/
theorem free_or {Q : Bool → Shared → Prop} (S : ZipSep3 z TI TO i1 i2 i3 fp1 fp2 fp3) (D1 : Draws prog w A i1 fp1 n1 P1 St1) (D2 : Draws prog w A i2 fp2 n2 P2 St2) (D3 : Draws prog w A i3 fp3 n3 P3 St3) (kx : Kept x)
    (F : Fz z TI TO i1 i2 i3 St1 St2 St3 b N x f a j1 j2 j3 s.heap) (h1 : Q true s) (h2 : ∀ g, Fz z TI TO i1 i2 i3 St1 St2 St3 b N x true a j1 j2 j3 g → Q false { s with heap := g }) :
    wpAny (model prog w) A (Builtin.SmallTypes.ownedTupleIsFree (.ref z)) Q E s := by
  unfold Builtin.SmallTypes.ownedTupleIsFree
  rcases kx with rfl | ⟨T, rfl⟩
  · exact wpAny_bind (wpAny_field F.hz rfl (x := .none) rfl (wpAny_pure h1))
  · refine wpAny_bind (wpAny_field F.hz rfl (x := rawInt T) rfl ?_); show wpAny _ _ (loadIfAlive (T : Int).toNat >>= _) _ _ _
    refine wpAny_bind (alive_at ?_)
    cases s.heap.get? (T : Int).toNat with
    | none => exact wpAny_pure h1
    | some o =>
      simp only [Option.isNone_some, Bool.false_eq_true, if_false]; refine wpAny_bind (wpAny_field (i := 1) F.hz rfl (x := .bool f) rfl ?_)
      cases f with
      | true => rw [if_neg (by decide)]; exact wpAny_pure (h2 _ F)
      | false => rw [if_pos (by decide)]; exact wpAny_bind (F.set1 S D1 D2 D3 fun g G _ => wpAny_pure (h2 g G))
end
end VE

namespace VE
open PySem PySem.Spec PyProof.Rows L2 G0
section
variable {prog : Program} {w : World} {A : Around} {E : Value → Shared → Prop} {s : Shared} {z TI TO i1 i2 i3 : Addr} {fp1 fp2 fp3 : List Addr} {n1 n2 n3 j1 j2 j3 i N : Nat} {P1 P2 P3 : Nat → Value → Prop} {St1 St2 St3 : Nat → Heap → Prop}
  {b g : Heap} {x y : Value} {f f' : Bool} {a : Array Value}
theorem arr3 {a : Array Value} (h : a.size = 3) : ∃ p q r, a = #[p, q, r] := by
  obtain ⟨l⟩ := a
  match l, h with
  | [p, q, r], _ => exact ⟨p, q, r, rfl⟩
/-- the new tuple, told -/
theorem out3 {u1 u2 u3 : Value} {Q : Value → Shared → Prop} (S : ZipSep3 z TI TO i1 i2 i3 fp1 fp2 fp3) (D1 : Draws prog w A i1 fp1 n1 P1 St1) (D2 : Draws prog w A i2 fp2 n2 P2 St2) (D3 : Draws prog w A i3 fp3 n3 P3 St3)
    (F : Fz z TI TO i1 i2 i3 St1 St2 St3 b N x f a j1 j2 j3 s.heap)
    (h : ∀ g, Fz z TI TO i1 i2 i3 St1 St2 St3 b (N + 1) x f a j1 j2 j3 g → IsTupOf3 g N u1 u2 u3 → Q (.ref N) { s with heap := g }) : wpAny (model prog w) A (newTuple [u1, u2, u3]) Q E s := by
  refine wpAny_newTuple ?_
  have e : IsTupOf3 (s.heap.push { cls := .type "tuple", data := .seq #[u1, u2, u3] }) s.heap.objs.size u1 u2 u3 := Heap.get?_push_size _ rfl
  have r := h _ (F.push D1 D2 D3) (F.hn ▸ e)
  rw [← F.hn] at r
  exact r
theorem z3_next {Q : Value → Shared → Prop} (S : ZipSep3 z TI TO i1 i2 i3 fp1 fp2 fp3) (D1 : Draws prog w A i1 fp1 n1 P1 St1) (D2 : Draws prog w A i2 fp2 n2 P2 St2) (D3 : Draws prog w A i3 fp3 n3 P3 St3) (kx : Kept x) (h3 : a.size = 3)
    (hTI : IsTupOf3 s.heap TI (.ref i1) (.ref i2) (.ref i3)) (F : Fz z TI TO i1 i2 i3 St1 St2 St3 b N x f a i i i s.heap) (l1 : i < n1) (l2 : i < n2) (l3 : i < n3)
    (hQ : ∀ u1 u2 u3 g tk x' f' a', P1 i u1 → P2 i u2 → P3 i u3 → Kept x' → a'.size = 3 → Fz z TI TO i1 i2 i3 St1 St2 St3 b (N + 1) x' f' a' (i + 1) (i + 1) (i + 1) g → IsTupOf3 g N u1 u2 u3 → Q (.ref N) { s with heap := g, toks := tk }) :
    wpAny (model prog w) A (Builtin.«zip.__next__» ⟨[.ref z], []⟩) (fun fin s' => ∃ v, fin = .done (.ret v) ∧ Q v s') E s := by
  show wpAny _ _ (field (.ref z) 2 >>= _) _ _ _; refine wpAny_bind (wpAny_field F.hz rfl (x := .bool false) rfl ?_)
  show wpAny _ _ (field (.ref z) 3 >>= _) _ _ _; refine wpAny_bind (wpAny_field F.hz rfl (x := .ref TI) rfl (wpAny_bind (wpAny_seqItems hTI rfl ?_)))
  show wpAny _ _ (Builtin.SmallTypes.ownedTupleIsFree (.ref z) >>= _) _ _ _; refine wpAny_bind (free_or S D1 D2 D3 kx F ?_ ?_)
  · simp only [if_true]; refine wpAny_bind (wpAny_rule (wpAny_bind (wpAny_field F.hz rfl (x := .ref TO) rfl (wpAny_bind (F.set0 S D1 D2 D3 fun g0 F0 _ => wpAny_bind ?_)))))
    simp only [List.zipIdx_cons, List.zipIdx_nil, List.forIn_cons, List.forIn_nil]; refine wpAny_bind (wpAny_bind (wpAny_onRaise ?_))
    show wpAny _ _ (Builtin.SmallTypes.nextOf (.ref i1) >>= _) _ _ { s with heap := g0 }
    refine wpAny_bind (F0.draw1 (s := { s with heap := g0 }) S D1 D2 D3 l1 fun u1 p1 tk1 hu1 F1 => wpAny_pure (wpAny_bind (wpAny_seqItems (s := { s with heap := p1, toks := tk1 }) F1.ht rfl (wpAny_bind (F1.put (s := { s with heap := p1, toks := tk1 }) h3 S D1 D2 D3 fun g1 F1 => wpAny_bind (wpAny_letGo (wpAny_pure (wpAny_bind (wpAny_bind (wpAny_onRaise ?_))))))))))
    show wpAny _ _ (Builtin.SmallTypes.nextOf (.ref i2) >>= _) _ _ { s with heap := g1, toks := tk1 }
    refine wpAny_bind (F1.draw2 (s := { s with heap := g1, toks := tk1 }) S D1 D2 D3 l2 fun u2 p2 tk2 hu2 F2 => wpAny_pure (wpAny_bind (wpAny_seqItems (s := { s with heap := p2, toks := tk2 }) F2.ht rfl (wpAny_bind (F2.put (s := { s with heap := p2, toks := tk2 }) (by simpa using h3) S D1 D2 D3 fun g2 F2 => wpAny_bind (wpAny_letGo (wpAny_pure (wpAny_bind (wpAny_bind (wpAny_onRaise ?_))))))))))
    show wpAny _ _ (Builtin.SmallTypes.nextOf (.ref i3) >>= _) _ _ { s with heap := g2, toks := tk2 }
    refine wpAny_bind (F2.draw3 (s := { s with heap := g2, toks := tk2 }) S D1 D2 D3 l3 fun u3 p3 tk3 hu3 F3 => wpAny_pure (wpAny_bind (wpAny_seqItems (s := { s with heap := p3, toks := tk3 }) F3.ht rfl (wpAny_bind (F3.put (s := { s with heap := p3, toks := tk3 }) (by simpa using h3) S D1 D2 D3 fun g3 F3 => wpAny_bind (wpAny_letGo (wpAny_pure (wpAny_pure (wpAny_bind (wpAny_seqItems (s := { s with heap := g3, toks := tk3 }) F3.ht rfl ?_))))))))))
    obtain ⟨p, q, r, rfl⟩ := arr3 h3
    have F3 : Fz z TI TO i1 i2 i3 St1 St2 St3 b N .ellipsis f #[u1, u2, u3] (i + 1) (i + 1) (i + 1) g3 := F3
    refine wpAny_bind (out3 (s := { s with heap := g3, toks := tk3 }) S D1 D2 D3 F3 fun g4 F4 t4 => ?_)
    show wpAny _ _ (Builtin.SmallTypes.ownedTupleHandOut (.ref z) (.ref N) >>= _) _ _ { s with heap := g4, toks := tk3 }
    have nz : N ≠ z := fun e => by
      have := Heap.lt_size F3.hz
      rw [F3.hn, ← e] at this
      exact Nat.lt_irrefl _ this
    unfold Builtin.SmallTypes.ownedTupleHandOut
    refine wpAny_bind (wpAny_bind (F4.set0 (y := rawInt N) (s := { s with heap := g4, toks := tk3 }) S D1 D2 D3 fun g5 F5 b5 => F5.set1 (s := { s with heap := g5, toks := tk3 }) S D1 D2 D3 fun g6 F6 b6 => wpAny_pure ⟨_, rfl, ?_⟩))
    exact hQ u1 u2 u3 g6 tk3 _ _ _ hu1 hu2 hu3 (.inr ⟨N, rfl⟩) rfl F6 (b6.extBut _ _ nz (b5.extBut _ _ nz t4))
  · intro g0 F0
    simp only [Bool.false_eq_true, if_false]; refine wpAny_bind ?_
    rw [← Array.forIn_toList]; simp only [List.forIn_cons, List.forIn_nil]; refine wpAny_bind (wpAny_bind (wpAny_holding ?_))
    show wpAny _ _ (Builtin.SmallTypes.nextOf (.ref i1) >>= _) _ _ { s with heap := g0 }
    refine wpAny_bind (F0.draw1 (s := { s with heap := g0 }) S D1 D2 D3 l1 fun u1 p1 tk1 hu1 F1 => wpAny_pure (wpAny_pure (wpAny_bind (wpAny_bind (wpAny_holding ?_)))))
    show wpAny _ _ (Builtin.SmallTypes.nextOf (.ref i2) >>= _) _ _ { s with heap := p1, toks := tk1 }
    refine wpAny_bind (F1.draw2 (s := { s with heap := p1, toks := tk1 }) S D1 D2 D3 l2 fun u2 p2 tk2 hu2 F2 => wpAny_pure (wpAny_pure (wpAny_bind (wpAny_bind (wpAny_holding ?_)))))
    show wpAny _ _ (Builtin.SmallTypes.nextOf (.ref i3) >>= _) _ _ { s with heap := p2, toks := tk2 }
    refine wpAny_bind (F2.draw3 (s := { s with heap := p2, toks := tk2 }) S D1 D2 D3 l3 fun u3 p3 tk3 hu3 F3 => wpAny_pure (wpAny_pure (wpAny_pure ?_)))
    show wpAny _ _ (newTuple [u1, u2, u3] >>= _) _ _ { s with heap := p3, toks := tk3 }
    refine wpAny_bind (out3 (s := { s with heap := p3, toks := tk3 }) S D1 D2 D3 F3 fun g4 F4 t4 => wpAny_pure ⟨_, rfl, ?_⟩)
    exact hQ u1 u2 u3 g4 tk3 _ _ _ hu1 hu2 hu3 kx h3 F4 t4
theorem z3_end {Q : Fin → Shared → Prop} (S : ZipSep3 z TI TO i1 i2 i3 fp1 fp2 fp3) (D1 : Draws prog w A i1 fp1 n1 P1 St1) (D2 : Draws prog w A i2 fp2 n2 P2 St2) (D3 : Draws prog w A i3 fp3 n3 P3 St3) (kx : Kept x)
    (hTI : IsTupOf3 s.heap TI (.ref i1) (.ref i2) (.ref i3)) (F : Fz z TI TO i1 i2 i3 St1 St2 St3 b N x f a n1 j2 j3 s.heap)
    (hE : ∀ g tk e, (∀ c o, c ≠ z → c ≠ TO → c ≠ i1 → c ≠ i2 → c ≠ i3 → b.get? c = some o → g.get? c = some o) → (∃ o, g.get? e = some o ∧ o.cls = .type "StopIteration") → E (.ref e) { s with heap := g, toks := tk }) :
    wpAny (model prog w) A (Builtin.«zip.__next__» ⟨[.ref z], []⟩) Q E s := by
  show wpAny _ _ (field (.ref z) 2 >>= _) _ _ _; refine wpAny_bind (wpAny_field F.hz rfl (x := .bool false) rfl ?_)
  show wpAny _ _ (field (.ref z) 3 >>= _) _ _ _; refine wpAny_bind (wpAny_field F.hz rfl (x := .ref TI) rfl (wpAny_bind (wpAny_seqItems hTI rfl ?_)))
  show wpAny _ _ (Builtin.SmallTypes.ownedTupleIsFree (.ref z) >>= _) _ _ _; refine wpAny_bind (free_or S D1 D2 D3 kx F ?_ ?_)
  · simp only [if_true]; refine wpAny_bind (wpAny_rule (wpAny_bind (wpAny_field F.hz rfl (x := .ref TO) rfl (wpAny_bind (F.set0 S D1 D2 D3 fun g0 F0 _ => wpAny_bind ?_)))))
    simp only [List.zipIdx_cons, List.zipIdx_nil, List.forIn_cons, List.forIn_nil]; refine wpAny_bind (wpAny_bind (wpAny_onRaise ?_))
    show wpAny _ _ (Builtin.SmallTypes.nextOf (.ref i1) >>= _) _ _ { s with heap := g0 }
    refine wpAny_bind (D1.done { s with heap := g0 } _ _ F0.s1 fun q e hq he => ?_)
    obtain ⟨oe, h1, h2⟩ := he
    have hq : Heap.ExtBut i1 g0 q := hq
    have zq : ZipG q z TI TO .ellipsis f := hq _ _ S.zi1 F0.hz
    have ez : e ≠ z := fun u => by
      subst u
      have h1 : q.get? e = some oe := h1
      rw [zq] at h1
      cases h1
      simp at h2
    refine wpAny_setField_rec (s := { s with heap := q }) zq (by simp) fun r _ hr => ?_
    exact hE r s.toks e (fun c o c0 cT c1 c2 c3 u => hr.extBut _ _ c0 (hq _ _ c1 (F0.hk c o c0 cT c1 c2 c3 u))) ⟨oe, hr.extBut _ _ ez h1, h2⟩
  · intro g0 F0
    simp only [Bool.false_eq_true, if_false]; refine wpAny_bind ?_
    rw [← Array.forIn_toList]; simp only [List.forIn_cons, List.forIn_nil]; refine wpAny_bind (wpAny_bind (wpAny_holding ?_))
    show wpAny _ _ (Builtin.SmallTypes.nextOf (.ref i1) >>= _) _ _ { s with heap := g0 }
    refine wpAny_bind (D1.done { s with heap := g0 } _ _ F0.s1 fun q e hq he => ?_)
    have hq : Heap.ExtBut i1 g0 q := hq
    exact hE q s.toks e (fun c o c0 cT c1 c2 c3 u => hq _ _ c1 (F0.hk c o c0 cT c1 c2 c3 u)) he
theorem zipG_type {h : Heap} (e : ZipG h z TI TO x f) {s : Shared} (q : s.heap = h) : s.TypeIs (.ref z) "zip" := ⟨_, by rw [q]; exact e, rfl⟩
theorem py_z3 {Q : Option Value → Shared → Prop} (S : ZipSep3 z TI TO i1 i2 i3 fp1 fp2 fp3) (D1 : Draws prog w A.in1 i1 fp1 n1 P1 St1) (D2 : Draws prog w A.in1 i2 fp2 n2 P2 St2) (D3 : Draws prog w A.in1 i3 fp3 n3 P3 St3) (kx : Kept x) (h3 : a.size = 3)
    (hTI : IsTupOf3 s.heap TI (.ref i1) (.ref i2) (.ref i3)) (F : Fz z TI TO i1 i2 i3 St1 St2 St3 b N x f a i i i s.heap) (l1 : i < n1) (l2 : i < n2) (l3 : i < n3)
    (hQ : ∀ u1 u2 u3 g tk x' f' a', P1 i u1 → P2 i u2 → P3 i u3 → Kept x' → a'.size = 3 → Fz z TI TO i1 i2 i3 St1 St2 St3 b (N + 1) x' f' a' (i + 1) (i + 1) (i + 1) g → IsTupOf3 g N u1 u2 u3 → Q (some (.ref N)) { s with heap := g, toks := tk }) :
    wpAny (model prog w) A (pyNext (.ref z)) Q E s := by
  unfold pyNext
  refine wpAny_bind (wpAny_attempt (wpAny_callSpecial?_slot (name := Str.ofString "__next__") (zipG_type F.hz rfl) PySem.F.slot_zip_next (wpAny_call_entry PySem.F.slot_zip_next (zipG_type F.hz rfl) PySem.F.entry_zip_next ?_ (PySem.F.args_zip_next_1 _))))
  exact z3_next S D1 D2 D3 kx h3 hTI F l1 l2 l3 fun u1 u2 u3 g tk x' f' a' p1 p2 p3 q1 q2 q3 q4 => wpAny_pure (hQ u1 u2 u3 g tk x' f' a' p1 p2 p3 q1 q2 q3 q4)
theorem py_z3_end {Q : Option Value → Shared → Prop} (S : ZipSep3 z TI TO i1 i2 i3 fp1 fp2 fp3) (D1 : Draws prog w A.in1 i1 fp1 n1 P1 St1) (D2 : Draws prog w A.in1 i2 fp2 n2 P2 St2) (D3 : Draws prog w A.in1 i3 fp3 n3 P3 St3) (kx : Kept x)
    (hTI : IsTupOf3 s.heap TI (.ref i1) (.ref i2) (.ref i3)) (F : Fz z TI TO i1 i2 i3 St1 St2 St3 b N x f a n1 j2 j3 s.heap)
    (hQ : ∀ g tk, (∀ c o, c ≠ z → c ≠ TO → c ≠ i1 → c ≠ i2 → c ≠ i3 → b.get? c = some o → g.get? c = some o) → Q none { s with heap := g, toks := tk }) : wpAny (model prog w) A (pyNext (.ref z)) Q E s := by
  unfold pyNext
  refine wpAny_bind (wpAny_attempt (wpAny_callSpecial?_slot (name := Str.ofString "__next__") (zipG_type F.hz rfl) PySem.F.slot_zip_next (wpAny_call_entry PySem.F.slot_zip_next (zipG_type F.hz rfl) PySem.F.entry_zip_next ?_ (PySem.F.args_zip_next_1 _))))
  refine z3_end S D1 D2 D3 kx hTI F fun g tk e hk he => ?_
  obtain ⟨o, ho, hc⟩ := he; exact wpAny_bind (wpAny_isInstance (T := "StopIteration") (b := true) ⟨o, ho, hc⟩ isSubtype_stop (wpAny_pure (hQ _ _ hk)))
end
end VE

namespace VE
open PySem PySem.Spec PyProof.Rows L2 G0
def ItZ3 (b1 b2 b3 : Bool) (K : PySem.W.Frag) (a1 a2 a3 : Addr) : It :=
  ⟨fun i H => ∃ (xs ys zs : List V) (x y z : V), SqK b1 K H a1 xs ∧ SqK b2 K H a2 ys ∧ SqK b3 K H a3 zs ∧ xs[i]? = some x ∧ ys[i]? = some y ∧ zs[i]? = some z,
    fun i H v H' => ∃ T x y z, v = .ref T ∧ H T = none ∧ H' = upd H T (.tup [x, y, z]) ∧ (∀ xs, SqK b1 K H a1 xs → xs[i]? = some x) ∧ (∀ ys, SqK b2 K H a2 ys → ys[i]? = some y) ∧ ∀ zs, SqK b3 K H a3 zs → zs[i]? = some z,
    fun i H => ∃ xs ys zs : List V, SqK b1 K H a1 xs ∧ SqK b2 K H a2 ys ∧ SqK b3 K H a3 zs ∧ xs.length = i ∧ ys.length = i ∧ zs.length = i⟩
def Tz3 (b1 b2 b3 : Bool) (z TI TO i1 i2 i3 a1 a2 a3 : Addr) (i : Nat) (h : Heap) : Prop :=
  (∃ x f a, Kept x ∧ ZipG h z TI TO x f ∧ a.size = 3 ∧ h.get? TO = some { cls := .type "tuple", data := .seq a }) ∧ IsTupOf3 h TI (.ref i1) (.ref i2) (.ref i3) ∧ IterK b1 h i1 a1 i ∧ IterK b2 h i2 a2 i ∧ IterK b3 h i3 a3 i
theorem turn_Z3 {P : Program} {w : World} {K : PySem.W.Frag} {nm : Str} {tpos : Pos} (b1 b2 b3 : Bool) {a1 a2 a3 z TI TO i1 i2 i3 : Addr} (S : ZipSep3 z TI TO i1 i2 i3 [i1, a1] [i2, a2] [i3, a3]) (n1 : a1 ≠ i1) (n2 : a2 ≠ i2) (n3 : a3 ≠ i3) :
    Turn P w K (.Name nm tpos) (ItZ3 b1 b2 b3 K a1 a2 a3) [z, TI, TO, i1, i2, i3] z (Tz3 b1 b2 b3 z TI TO i1 i2 i3 a1 a2 a3) where
  mem := by simp
  obj := fun i h st c hc => by
    obtain ⟨⟨x, f, a, kx, hz, h3, hTO⟩, hTI, h1, h2, h3⟩ := st
    have e' : c = z ∨ c = TI ∨ c = TO ∨ c = i1 ∨ c = i2 ∨ c = i3 := by simpa using hc
    rcases e' with q | q | q | q | q | q
    · subst q; exact ⟨_, hz, fun v q => nomatch q⟩
    · subst q; exact ⟨_, hTI, fun v q => nomatch q⟩
    · subst q; exact ⟨_, hTO, fun v q => nomatch q⟩
    · exact q ▸ h1.obj
    · exact q ▸ h2.obj
    · exact q ▸ h3.obj
  keep := fun i h h' st k => by
    obtain ⟨⟨x, f, a, kx, hz, h3, hTO⟩, hTI, g1, g2, g3⟩ := st
    exact ⟨⟨x, f, a, kx, k z (by simp) _ hz, h3, k TO (by simp) _ hTO⟩, k TI (by simp) _ hTI, g1.keep (k i1 (by simp)), g2.keep (k i2 (by simp)), g3.keep (k i3 (by simp))⟩
  item := by
    rintro X rfl rfl rfl hc i pins s σ H E J hf ⟨⟨x0, f, a, kx, hz, h3, hTO⟩, hTI, g1, g2, g3⟩ ⟨xs, ys, zs, x, y, v, hqx, hqy, hqz, hx, hy, hv⟩
    obtain ⟨its, rv, isK, alt⟩ := seq_K J hqx
    obtain ⟨its2, rv2, isK2, alt2⟩ := seq_K J hqy
    obtain ⟨its3, rv3, isK3, alt3⟩ := seq_K J hqz
    have len := rv.length
    have len2 := rv2.length
    have len3 := rv3.length
    have ib : i < its.toArray.size := by
      have := (List.getElem?_eq_some_iff.mp hx).1
      simp
      omega
    have ib2 : i < its2.toArray.size := by
      have := (List.getElem?_eq_some_iff.mp hy).1
      simp
      omega
    have ib3 : i < its3.toArray.size := by
      have := (List.getElem?_eq_some_iff.mp hv).1
      simp
      omega
    have D1 := draw_K (prog := X.prog) (w := X.w) (A := X.A.in1) (J.ok.hd hc) b1 i1 a1 n1 its.toArray
    have D2 := draw_K (prog := X.prog) (w := X.w) (A := X.A.in1) (J.ok.hd hc) b2 i2 a2 n2 its2.toArray
    have D3 := draw_K (prog := X.prog) (w := X.w) (A := X.A.in1) (J.ok.hd hc) b3 i3 a3 n3 its3.toArray
    refine py_z3 (N := s.heap.objs.size) (b := s.heap) S D1 D2 D3 kx h3 hTI ⟨hz, hTO, ⟨g1, isK⟩, ⟨g2, isK2⟩, ⟨g3, isK3⟩, fun c o _ _ _ _ _ e => e, rfl⟩ ib ib2 ib3 fun u1 u2 u3 g tk x' f' a' hu1 hu2 hu3 kx' h3' F hT => ?_
    refine ⟨_, rfl, ?_⟩
    show wpAny (model X.prog X.w) X.A (pure ()) _ E _
    refine wpAny_pure ?_
    have ru1 : RelV x u1 := item_K (b := b1) (a := a1) rv hu1 hx
    have ru2 : RelV y u2 := item_K (b := b2) (a := a2) rv2 hu2 hy
    have ru3 : RelV v u3 := item_K (b := b3) (a := a3) rv3 hu3 hv
    have new : ObjOk X.prog X.w (upd H s.heap.objs.size (.tup [x, y, v])) g s.heap.objs.size (.tup [x, y, v]) :=
      ⟨by show 3 ≤ sizeLine; decide, [u1, u2, u3], .cons ru1 (.cons ru2 (.cons ru3 .nil)), ⟨_, hT, rfl, _, rfl⟩⟩
    have J1 : Inv X pins σ (upd H s.heap.objs.size (.tup [x, y, v])) { s with heap := g, toks := tk } :=
      J.turnedNew (t' := tk) (ch := [z, TI, TO, i1, i2, i3]) (fun c o hb q => F.hk c o (fun q' => hb (by simp [q'])) (fun q' => hb (by simp [q'])) (fun q' => hb (by simp [q'])) (fun q' => hb (by simp [q'])) (fun q' => hb (by simp [q'])) q) hf (Nat.le_refl _) new
    refine ⟨.ref s.heap.objs.size, _, J1, rfl, ⟨_, x, y, v, rfl, J.hok.fresh (Nat.le_refl _), rfl, fun l hl => by rw [inj_K J hl hqx]; exact hx, fun l hl => by rw [inj_K J hl hqy]; exact hy, fun l hl => by rw [inj_K J hl hqz]; exact hv⟩, ⟨⟨x', f', a', kx', F.hz, h3', F.ht⟩, ?_, F.s1.1, F.s2.1, F.s3.1⟩, fun c hcm => ?_⟩
    · exact F.hk _ _ S.TIz S.TITO S.TIi1 S.TIi2 S.TIi3 hTI
    · have hlt : c < s.heap.objs.size := by
        have e' : c = z ∨ c = TI ∨ c = TO ∨ c = i1 ∨ c = i2 ∨ c = i3 := by simpa using hcm
        rcases e' with q | q | q | q | q | q
        · exact q ▸ Heap.lt_size hz
        · exact q ▸ Heap.lt_size hTI
        · exact q ▸ Heap.lt_size hTO
        · obtain ⟨_, e1, _⟩ := g1.obj; exact q ▸ Heap.lt_size e1
        · obtain ⟨_, e1, _⟩ := g2.obj; exact q ▸ Heap.lt_size e1
        · obtain ⟨_, e1, _⟩ := g3.obj; exact q ▸ Heap.lt_size e1
      rw [upd_ne (Nat.ne_of_lt hlt)]
      exact (hf c hcm).1
  done := by
    rintro X rfl rfl rfl hc i pins s σ H E J hf ⟨⟨x0, f, a, kx, hz, h3, hTO⟩, hTI, g1, g2, g3⟩ ⟨xs, ys, zs, hqx, hqy, hqz, l1, l2, l3⟩
    obtain ⟨its, rv, isK, alt⟩ := seq_K J hqx
    obtain ⟨its2, rv2, isK2, alt2⟩ := seq_K J hqy
    obtain ⟨its3, rv3, isK3, alt3⟩ := seq_K J hqz
    have es : its.toArray.size = i := by
      rw [List.size_toArray, ← l1, rv.length]
    have D1 := draw_K (prog := X.prog) (w := X.w) (A := X.A.in1) (J.ok.hd hc) b1 i1 a1 n1 its.toArray
    have D2 := draw_K (prog := X.prog) (w := X.w) (A := X.A.in1) (J.ok.hd hc) b2 i2 a2 n2 its2.toArray
    have D3 := draw_K (prog := X.prog) (w := X.w) (A := X.A.in1) (J.ok.hd hc) b3 i3 a3 n3 its3.toArray
    refine py_z3_end (N := s.heap.objs.size) (b := s.heap) (j2 := i) (j3 := i) S D1 D2 D3 kx hTI ⟨hz, hTO, ⟨es ▸ g1, isK⟩, ⟨g2, isK2⟩, ⟨g3, isK3⟩, fun c o _ _ _ _ _ e => e, rfl⟩ fun g tk hk => ⟨rfl, J.turnedL (t' := tk) (ch := [z, TI, TO, i1, i2, i3]) (fun c o hb q =>
      hk c o (fun q' => hb (by simp [q'])) (fun q' => hb (by simp [q'])) (fun q' => hb (by simp [q'])) (fun q' => hb (by simp [q'])) (fun q' => hb (by simp [q'])) q) hf⟩
  self := fun A i s Q E st h => by
    obtain ⟨⟨x0, f, a, kx, hz, h3, hTO⟩, _⟩ := st
    exact wpAny_pyIter_slot (zipG_type hz rfl) PySem.F.slot_zip_iter (wpAny_call_entry PySem.F.slot_zip_iter (zipG_type hz rfl) PySem.F.entry_zip_iter (show wpAny _ _ (ret (.ref z)) _ _ s from wpAny_pure ⟨_, rfl, "zip", _, zipG_type hz rfl, PySem.F.slot_zip_next.lookup, h⟩) (PySem.F.args_zip_iter_1 _))
theorem zip_sep3 {n a1 a2 a3 : Nat} (la : a1 < n) (lb : a2 < n) (lc : a3 < n) : ZipSep3 (n + 5) (n + 3) (n + 4) n (n + 1) (n + 2) [n, a1] [n + 1, a2] [n + 2, a3] where
  TIz := ups (by decide)
  TOz := ups (by decide)
  TITO := ups (by decide)
  TIi1 := up (by decide)
  mem1 := by simp
  zf1 := not_two (up (by decide)) (upa la)
  Tf1 := not_two (up (by decide)) (upa la)
  TIi2 := ups (by decide)
  mem2 := by simp
  zf2 := not_two (ups (by decide)) (upa lb)
  Tf2 := not_two (ups (by decide)) (upa lb)
  TIi3 := ups (by decide)
  mem3 := by simp
  zf3 := not_two (ups (by decide)) (upa lc)
  Tf3 := not_two (ups (by decide)) (upa lc)
  sep1_2 := not_two (up (by decide)).symm (fun e => Nat.ne_of_gt lb e)
  sep1_3 := not_two (up (by decide)).symm (fun e => Nat.ne_of_gt lc e)
  sep2_1 := not_two (up (by decide)) (upa la)
  sep2_3 := not_two (ups (by decide)) (upa lc)
  sep3_1 := not_two (up (by decide)) (upa la)
  sep3_2 := not_two (ups (by decide)) (upa lb)
def iZ3 (b1 b2 b3 : Bool) (K : PySem.W.Frag) (ta : TA) : TI := fun σ H R => ta σ H fun vs H1 => ∃ a1 a2 a3 xs ys zs, vs = [.ref a1, .ref a2, .ref a3] ∧ SqK b1 K H1 a1 xs ∧ SqK b2 K H1 a2 ys ∧ SqK b3 K H1 a3 zs ∧ R (ItZ3 b1 b2 b3 K a1 a2 a3) H1
theorem pi_Z3 (b1 b2 b3 : Bool) {X : Cx} {e e2 e3 : Expr} {ta : TA} {p pos tpos : Pos} {nm : Str} (hg : Gl X "zip") (hm : X.mg "zip" = none) (ha : PA X [e, e2, e3] ta)
    (hs : starEach [e, e2, e3] X.env = (false, eval e X.env) :: starEach [e2, e3] X.env := by rfl) (hpl : (backTo pos (starEach [e2, e3] X.env)).any (·.1) = false := by rfl) :
    PI X (.Name nm tpos) (.Call (.Name "zip" p) [e, e2, e3] [] pos) (iZ3 b1 b2 b3 X.K ta) := by
  refine ⟨fun pins s σ H R I h => ?_⟩
  refine Call_ (ld_blt I hg hm PyProof.Rows.boot_zip (PyProof.Rows.callWith_type1 (thn (ha.run pos pins s σ H _ I h) fun us s1 ⟨vs, H1, I1, r1, q1⟩ => ?_) hs hpl))
  obtain ⟨a1, a2, a3, xs, ys, zs, rfl, hqx, hqy, hqz, q⟩ := q1
  obtain _ | ⟨r, rr⟩ := r1
  obtain _ | ⟨r', rr⟩ := rr
  obtain _ | ⟨r'', rr⟩ := rr
  cases rr
  cases r
  cases r'
  cases r''
  obtain ⟨its, rv, isK, la⟩ := seq_K I1 hqx
  obtain ⟨its2, rv2, isK2, lb⟩ := seq_K I1 hqy
  obtain ⟨its3, rv3, isK3, lc⟩ := seq_K I1 hqz
  refine zip_begins3 (begin_K b1 a1 its.toArray) (begin_K b2 a2 its2.toArray) (begin_K b3 a3 its3.toArray) isK isK2 isK3 fun h' hz hTI hTO h1 h2 h3 hsz hk => wpAny_pyIter_zip hz ?_
  have I2 : Inv X pins σ H1 { s1 with heap := h' } := I1.kept (t' := s1.toks) hk
  have S : ZipSep3 (s1.heap.objs.size + 5) (s1.heap.objs.size + 3) (s1.heap.objs.size + 4) s1.heap.objs.size (s1.heap.objs.size + 1) (s1.heap.objs.size + 2) [s1.heap.objs.size, a1] [s1.heap.objs.size + 1, a2] [s1.heap.objs.size + 2, a3] := zip_sep3 la lb lc
  refine ⟨s1.heap.objs.size + 5, [s1.heap.objs.size + 5, s1.heap.objs.size + 3, s1.heap.objs.size + 4, s1.heap.objs.size, s1.heap.objs.size + 1, s1.heap.objs.size + 2], _, _, H1, rfl, I2, turn_Z3 b1 b2 b3 S (Nat.ne_of_lt la) (Nat.ne_of_lt (Nat.lt_succ_of_lt lb)) (Nat.ne_of_lt (Nat.lt_succ_of_lt (Nat.lt_succ_of_lt lc))), ⟨⟨_, _, _, .inl rfl, hz, rfl, hTO⟩, hTI, iter_K h1, iter_K h2, iter_K h3⟩, fun c hcm => ?_, q⟩
  have e' : c = s1.heap.objs.size + 5 ∨ c = s1.heap.objs.size + 3 ∨ c = s1.heap.objs.size + 4 ∨ c = s1.heap.objs.size ∨ c = s1.heap.objs.size + 1 ∨ c = s1.heap.objs.size + 2 := by simpa using hcm
  have hle : s1.heap.objs.size ≤ c := by
    rcases e' with q | q | q | q | q | q
    · exact q ▸ Nat.le_add_right _ _
    · exact q ▸ Nat.le_add_right _ _
    · exact q ▸ Nat.le_add_right _ _
    · exact q ▸ Nat.le_refl _
    · exact q ▸ Nat.le_add_right _ _
    · exact q ▸ Nat.le_add_right _ _
  exact I1.fpOk hle (I1.hok.fresh hle)
/-- what comes at each turn -/
def YTrip (fx fy fz : Nat → Option V) : Nat → Hp → V → Hp → Prop := fun i H v H' => ∃ T x y z, v = .ref T ∧ H T = none ∧ H' = upd H T (.tup [x, y, z]) ∧ fx i = some x ∧ fy i = some y ∧ fz i = some z
theorem walk_Z3 {b1 b2 b3 : Bool} {K : PySem.W.Frag} {a1 a2 a3 : Addr} {xs ys zs : List V} (h1 : ys.length = xs.length) (h2 : zs.length = xs.length) :
    Walk (ItZ3 b1 b2 b3 K a1 a2 a3) xs.length (fun H => SqK b1 K H a1 xs ∧ SqK b2 K H a2 ys ∧ SqK b3 K H a3 zs) (YTrip (fun i => xs[i]?) (fun i => ys[i]?) (fun i => zs[i]?)) := by
  refine ⟨fun i _ hi q => ?_, fun _ q => ⟨xs, ys, zs, q.1, q.2.1, q.2.2, rfl, h1, h2⟩, fun i H v H' _ q y => ?_⟩
  · exact ⟨xs, ys, zs, xs[i]'hi, ys[i]'(by omega), zs[i]'(by omega), q.1, q.2.1, q.2.2, by simp, by simp, by simp⟩
  · obtain ⟨T, x, y, z, e1, e2, e3, e4, e5, e6⟩ := y
    exact ⟨T, x, y, z, e1, e2, e3, e4 xs q.1, e5 ys q.2.1, e6 zs q.2.2⟩
def zip3D : List D → List D → List D → List D
  | x :: xs, y :: ys, z :: zs => .tup [x, y, z] :: zip3D xs ys zs
  | _, _, _ => []
theorem zip3D_len : ∀ (ds es gs : List D), es.length = ds.length → gs.length = ds.length → (zip3D ds es gs).length = ds.length
  | [], _, _, _, _ => rfl
  | x :: ds, y :: es, z :: gs, h1, h2 => by
    show (zip3D ds es gs).length + 1 = ds.length + 1
    rw [zip3D_len ds es gs (by simpa using h1) (by simpa using h2)]
  | _ :: _, [], _, h, _ => by cases h
  | _ :: _, _ :: _, [], _, h => by cases h
theorem zip3D_get : ∀ {ds es gs : List D} {i : Nat} {d : D}, (zip3D ds es gs)[i]? = some d → ∃ x y z, ds[i]? = some x ∧ es[i]? = some y ∧ gs[i]? = some z ∧ d = .tup [x, y, z]
  | [], _, _, _, _, h => by simp [zip3D] at h
  | _ :: _, [], _, _, _, h => by simp [zip3D] at h
  | _ :: _, _ :: _, [], _, _, h => by simp [zip3D] at h
  | x :: ds, y :: es, z :: gs, 0, d, h => by
    simp [zip3D] at h
    exact ⟨x, y, z, rfl, rfl, rfl, h.symm⟩
  | x :: ds, y :: es, z :: gs, i + 1, d, h => by
    simp [zip3D] at h
    obtain ⟨a, b, c, h1, h2, h3, h4⟩ := zip3D_get h
    exact ⟨a, b, c, by simpa using h1, by simpa using h2, by simpa using h3, h4⟩
def finZ3 (rs : List RV) : M (List D) := M.bind (settle rs) fun ds => fun ρ => match ds with
  | [d, e, g] => (match seqD d, seqD e, seqD g with | some xs, some ys, some zs => if ys.length = xs.length ∧ zs.length = xs.length then .ok (zip3D xs ys zs) ρ else .bad | _, _, _ => .bad)
  | _ => .bad
def mZip3 (f : M (List RV)) : M (List D) := M.bind f finZ3
section
variable {K : PySem.W.Frag} {mg : Mg} {F : Hp}
theorem it_trip {J : It} {n : Nat} {G : Hp → Prop} {xs ys zs : Nat → Option V} {ds : List D} (wk : Walk J n G (YTrip xs ys zs)) (hn : ds.length = n) (gh : ∀ H, Same F H → G H) (z : n ≤ sizeLine)
    (r : ∀ i d, ds[i]? = some d → ∃ x y z, d = .tup [x, y, z] ∧ (∀ v, xs i = some v → Rep K mg F v x) ∧ (∀ v, ys i = some v → Rep K mg F v y) ∧ (∀ v, zs i = some v → Rep K mg F v z)) : ItOk K mg F J ds := by
  subst hn
  refine ⟨_, _, wk, gh, z, fun i d hd H v H' y F1 s1 s2 => ?_⟩
  obtain ⟨T, x, w, u, rfl, hT, rfl, h1, h2, h3⟩ := y
  obtain ⟨dx, dy, dz, rfl, r1, r2, r3⟩ := r i d hd
  exact ⟨_, .tup s2 hT (by show 3 ≤ sizeLine; decide) (.cons ((r1 _ h1).same s1) (.cons ((r2 _ h2).same s1) (.cons ((r3 _ h3).same s1) .nil)))⟩
theorem kindD (d : D) : (∃ b, ∀ v (F' : Hp), Rep K mg F' v d → ∃ a vs xs, seqD d = some xs ∧ v = .ref a ∧ SqK b K F' a vs ∧ vs.length ≤ sizeLine ∧ Reps K mg F' vs xs) ∨ seqD d = none := by
  cases d with
  | lst xs => exact .inl ⟨true, fun v F' r => by cases r with | lst k z rr => exact ⟨_, _, xs, rfl, rfl, k.sq, z, rr⟩⟩
  | tup xs => exact .inl ⟨false, fun v F' r => by cases r with | tup k z rr => exact ⟨_, _, xs, rfl, rfl, k.sq, z, rr⟩⟩
  | _ => exact .inr rfl
end
section
variable {X : Cx} {e e2 e3 : Expr} {fs : M (List RV)} {p pos tpos : Pos} {nm : Str}
theorem vi_zip3 (hm : X.mg "zip" = none) (ha : VA X [e, e2, e3] fs) (hg : Gl X "zip" := by rfl) (hs : starEach [e, e2, e3] X.env = (false, eval e X.env) :: starEach [e2, e3] X.env := by rfl) (hpl : (backTo pos (starEach [e2, e3] X.env)).any (·.1) = false := by rfl) :
    VI X (.Name nm tpos) (.Call (.Name "zip" p) [e, e2, e3] [] pos) (mZip3 fs) := by
  refine ⟨fun W tk => ⟨fun pins s σ H R I h => ?_⟩⟩
  obtain ⟨B, F, ρ, sr, h⟩ := h
  unfold mZip3 M.bind at h
  cases q : fs ρ with
  | bad => rw [q] at h; exact h.elim
  | exc C fs' ρ' => rw [q] at h; exact (pi_Z3 true true true hg hm (ha.run W tk) hs hpl).run pins s σ H R I ⟨B, F, ρ, sr, by rw [q]; exact h⟩
  | ok rs ρ1 =>
    rw [q] at h
    dsimp only at h
    unfold finZ3 M.bind at h
    cases q2 : settle rs ρ1 with
    | bad => rw [q2] at h; exact h.elim
    | exc C fs' ρ' => exact absurd q2 (settle_calm rs ρ1 C fs' ρ')
    | ok ds ρ2 =>
      rw [q2] at h
      dsimp only at h
      split at h
      · rename_i d1 d2 d3
        rcases kindD (K := X.K) (mg := X.mg) d1 with ⟨b1, k1⟩ | k1
        · rcases kindD (K := X.K) (mg := X.mg) d2 with ⟨b2, k2⟩ | k2
          · rcases kindD (K := X.K) (mg := X.mg) d3 with ⟨b3, k3⟩ | k3
            · refine (pi_Z3 b1 b2 b3 hg hm (ha.run W tk) hs hpl).run pins s σ H R I ⟨B, F, ρ, sr, ?_⟩
              rw [q]
              intro vs H1 F1 sr1 s1 rvs
              obtain ⟨F2, sr2, s2, reps⟩ := settle_known sr1 rvs q2
              obtain _ | ⟨r1, reps⟩ := reps
              obtain _ | ⟨r2, reps⟩ := reps
              obtain _ | ⟨r3, reps⟩ := reps
              cases reps
              obtain ⟨a1, w1, x1, e1, rfl, q1, z1, rr1⟩ := k1 _ _ r1
              obtain ⟨a2, w2, x2, e2, rfl, q2, z2, rr2⟩ := k2 _ _ r2
              obtain ⟨a3, w3, x3, e3, rfl, q3, z3, rr3⟩ := k3 _ _ r3
              rw [e1, e2, e3] at h
              dsimp only at h
              split at h
              · rename_i ln
                refine ⟨a1, a2, a3, w1, w2, w3, rfl, q1.same sr2.same, q2.same sr2.same, q3.same sr2.same, h _ H1 F2 sr2 (s1.trans s2) (it_trip (walk_Z3 (by rw [rr1.length, rr2.length]; exact ln.1) (by rw [rr1.length, rr3.length]; exact ln.2)) (by rw [zip3D_len _ _ _ ln.1 ln.2, rr1.length]) (fun H s => ⟨q1.same s, q2.same s, q3.same s⟩) z1 fun i d hd => ?_)⟩
                obtain ⟨x, y, z, hx, hy, hz, rfl⟩ := zip3D_get hd
                obtain ⟨u1, hu1, rep1⟩ := rr1.getD hx
                obtain ⟨u2, hu2, rep2⟩ := rr2.getD hy
                obtain ⟨u3, hu3, rep3⟩ := rr3.getD hz
                refine ⟨_, _, _, rfl, fun v hv => ?_, fun v hv => ?_, fun v hv => ?_⟩
                · rw [hu1] at hv; cases hv; exact rep1
                · rw [hu2] at hv; cases hv; exact rep2
                · rw [hu3] at hv; cases hv; exact rep3
              · exact h.elim
            · rw [k3] at h
              split at h
              · rename_i z; cases z
              · exact h.elim
          · rw [k2] at h
            split at h
            · rename_i z _; cases z
            · exact h.elim
        · rw [k1] at h
          exact h.elim
      · exact h.elim
end
end VE

namespace VE
open PySem PySem.Spec PyProof.Rows L2 G0
/-! ### what comes of a def, by hand -/
def resOf : Res RV → Option RV
  | .ok r _ => some r
  | _ => none
/-- what a def gives for data -/
def Ret (F : Fn) (args : List Slot) (r : RV) : Prop := resOf (F args) = some r
theorem Ret.ex {F : Fn} {args : List Slot} {r : RV} (h : Ret F args r) : ∃ ρ, F args = .ok r ρ := by
  unfold Ret resOf at h
  split at h
  · rename_i r' ρ e
    cases h
    exact ⟨ρ, e⟩
  · cases h
theorem Ret.of {F : Fn} {args : List Slot} {r : RV} {ρ : Rho} (h : F args = .ok r ρ) : Ret F args r := by unfold Ret; rw [h]; rfl
def rtF : Res Flow → Option RV
  | .ok (.rt r) _ => some r
  | .ok .nx _ => some (.val .non)
  | _ => none
theorem ret_of {n : Nat} {body : M Flow} {args : List Slot} {r : RV} (h : rtF (body (args.map some ++ List.replicate (n - args.length) none)) = some r) : Ret (fnBody n body) args r := by
  unfold rtF at h
  split at h
  · rename_i r' ρ e
    cases h
    exact .of (fnBody_rt e)
  · rename_i ρ e
    cases h
    exact .of (fnBody_nx e)
  · cases h
/-- a list or a tuple -/
def sq (t : Bool) (xs : List D) : D := match t with
  | true => .lst xs
  | false => .tup xs
section
variable {t : Bool} {xs : List D} {ρ : Rho} {i : Int}
theorem sq_t : sq true xs = .lst xs := rfl
theorem sq_f : sq false xs = .tup xs := rfl
theorem finI_sq : finI (.val (sq t xs)) ρ = .ok xs ρ := by cases t <;> rfl
theorem finI_lst : finI (.val (.lst xs)) ρ = .ok xs ρ := rfl
theorem finI_tup : finI (.val (.tup xs)) ρ = .ok xs ρ := rfl
theorem finI_own : finI (.own (.lst xs)) ρ = .ok xs ρ := rfl
theorem seqD_lst : seqD (.lst xs) = some xs := rfl
theorem seqD_tup : seqD (.tup xs) = some xs := rfl
theorem opIx_lst : opIx (.lst xs) (.int i) = (L2.atI xs i).map .val := rfl
theorem opIx_tup : opIx (.tup xs) (.int i) = (L2.atI xs i).map .val := rfl
theorem bLen_lst : bLen [.lst xs] = some (.val (.int xs.length)) := rfl
theorem bLen_tup : bLen [.tup xs] = some (.val (.int xs.length)) := rfl
theorem bList_lst : bList [.lst xs] = some (.own (.lst xs)) := rfl
theorem bList_tup : bList [.tup xs] = some (.own (.lst xs)) := rfl
theorem bTuple_lst : bTuple [.lst xs] = some (.val (.tup xs)) := rfl
theorem bTuple_tup : bTuple [.tup xs] = some (.val (.tup xs)) := rfl
theorem opIx_sq : opIx (sq t xs) (.int i) = (L2.atI xs i).map .val := by cases t <;> rfl
theorem bLen_sq : bLen [sq t xs] = some (.val (.int xs.length)) := by cases t <;> rfl
theorem seqD_sq : seqD (sq t xs) = some xs := by cases t <;> rfl
theorem isi_sq : bIsi [sq t xs, .tup [.ty .list, .ty .tuple]] = some (.val (.bl true)) := by cases t <;> rfl
theorem bList_sq : bList [sq t xs] = some (.own (.lst xs)) := by cases t <;> rfl
theorem bTuple_sq : bTuple [sq t xs] = some (.val (.tup xs)) := by cases t <;> rfl
theorem gT_sq {n : Nat} {gs : List D → M Unit} (h : xs.length = n) : gT n gs (.val (sq t xs)) ρ = gs xs ρ := by
  cases t <;> (unfold gT; exact if_pos h)
theorem at0 {α : Type} {a : α} {l : List α} : L2.atI (a :: l) 0 = some a := by
  unfold L2.atI ixN
  simp
theorem at1 {α : Type} {a b : α} {l : List α} : L2.atI (a :: b :: l) 1 = some b := by
  unfold L2.atI ixN
  simp
  rw [if_pos (by omega)]
  rfl
theorem at2 {α : Type} {a b c : α} {l : List α} : L2.atI (a :: b :: c :: l) 2 = some c := by
  unfold L2.atI ixN
  simp
  rw [if_pos (by omega)]
  rfl
theorem mul_ok {a b : Int} (h : mulOk a b = true) : opMul (.int a) (.int b) = some (.val (.int (a * b))) := by
  unfold opMul
  exact if_pos h
end
/-! ### sizes -/
theorem log2_le {x : Int} {k : Nat} (h : x.natAbs < 2 ^ (k + 1)) : x.natAbs.log2 ≤ k := by
  by_cases z : x.natAbs = 0
  · rw [z]; exact Nat.zero_le _
  · have := (Nat.log2_lt z).mpr h
    omega
theorem mulOk_of {x y : Int} {a b : Nat} (hx : x.natAbs ≤ a) (hy : y.natAbs ≤ b) (ha : a < 2 ^ 401) (hb : b < 2 ^ 401) : mulOk x y = true := by
  have h1 := log2_le (k := 400) (Nat.lt_of_le_of_lt hx ha)
  have h2 := log2_le (k := 400) (Nat.lt_of_le_of_lt hy hb)
  exact decide_eq_true (by omega)
theorem opMul_of {x y : Int} {a b : Nat} (hx : x.natAbs ≤ a) (hy : y.natAbs ≤ b) (ha : a < 2 ^ 401 := by decide) (hb : b < 2 ^ 401 := by decide) : opMul (.int x) (.int y) = some (.val (.int (x * y))) := mul_ok (mulOk_of hx hy ha hb)
end VE

set_option pp.oneline true
namespace VE
open PySem PySem.Spec PyProof.Rows L2 G0
/-! ### a property, read -/
structure Pv (P : Program) (w : World) (K : PySem.W.Frag) (mg : Mg) (base : Heap) (k : Nat) (C f : Str) (ps : List Str) (fn : Fn) : Prop where
  ex : ∃ (c p g : Addr) (fd : FuncData) (rest : List Value), mg C = some (.ref c) ∧ Cls K c ∧ (PySem.W.clsIn K c).isSome = true ∧ PySem.W.findIn K (.ref c) f = some (some (.ref p)) ∧ PySem.W.specialIn K (.ref p) "__get__" = some (some (.builtin "property.__get__")) ∧
    PySem.W.takesIn K (.ref p) = some true ∧ PySem.W.recIn K p "property" = some (.ref g :: rest) ∧ Binds K fd ps [] ∧ FnV P w K mg base k g fd ps (spV K mg ps.length fn)
def propR (C f : Str) (fn : Fn) (d : D) : M RV := fun ρ => if objOk f C d = true then noexc (runF 1 fn [.inl d]) ρ else .bad
def mProp (C f : Str) (fn : Fn) (m : M RV) : M RV := M.bind m fun r => M.bind (set1 r) (propR C f fn)
section
variable {X : Cx} {k : Nat} {C f : Str} {ps : List Str} {fn : Fn} {o : Expr} {m : M RV} {pos : Pos}
theorem getprop_V {W : WX} {pins : List (Addr × Obj)} {s : Shared} {σ : L2.St} {H : Hp} {a c dx : Addr} {vs : List (Str × V)} {b : Bool} {Q : L2.VK} {p g : Addr} {fd : FuncData} {rest : List Value} {x : Str} (I : Inv X pins σ H s) (e : H a = some (.ins c dx vs)) (cl : Cls X.K c) (ci : (PySem.W.clsIn X.K c).isSome = true)
    (fi : PySem.W.findIn X.K (.ref c) f = some (some (.ref p))) (sp : PySem.W.specialIn X.K (.ref p) "__get__" = some (some (.builtin "property.__get__"))) (tk : PySem.W.takesIn X.K (.ref p) = some true) (rc : PySem.W.recIn X.K p "property" = some (.ref g :: rest)) (bn : Binds X.K fd [x] [])
    (F : FnV X.prog X.w X.K X.mg X.base k g fd [x] (spV X.K X.mg 1 fn)) (gd : X.A.guards = some []) (room : Room (k + 1) X.A) (q : spV X.K X.mg 1 fn [.ref a] H Q fun _ _ _ => False) : wpAny (model X.prog X.w) X.A (getAttr (.ref a) f b) (EP X pins σ Q) X.xe s := by
  obtain ⟨mA, O, r, _, _, _⟩ := ins_get I.hok e
  obtain ⟨od, J, hl⟩ := O.look
  have I1 : Inv X pins σ H { s with toks := s.toks + 1 } := I.tok (s.toks + 1)
  refine PySem.W.get_bind I.kIn J (PySem.W.plainGet_of (cl.get f)).1 (PySem.W.findObj_data ci fi sp tk) (PySem.W.plainGet_of (cl.get f)).2 (wpAny_call (PySem.W.prop_get (s := { s with toks := s.toks + 1 }) I.kIn rc ?_))
  have b1 := bn { s with toks := s.toks + 1 } [.ref a] I1.kIn rfl
  refine codeAny_mono (F.run X.A.in1 X.stack { s with toks := s.toks + 1 } H ⟨[.ref a], []⟩ [.ref a] [.ref a] Q _ gd room.in1 I1.env0.in1 b1 (.cons rfl .nil) q) fun res s2 got => ?_
  match res, got with
  | .error _, got => obtain ⟨_, _, _, _, _, _, _, _, _, _, _, _, z⟩ := got; exact z.elim
  | .ok (.ret u), got =>
    obtain ⟨v, H', I2, rv, q⟩ := I1.after got
    exact wpAny_of_eq (PySem.W.handedOut_of (handed_of rv)) ⟨v, H', I2, rv, q⟩
  | .ok .next, got => exact got.elim
  | .ok .brk, got => exact got.elim
  | .ok .cont, got => exact got.elim
theorem ve_prop {x : Str} (D : Pv X.prog X.w X.K X.mg X.base k C f [x] fn) (gd : X.A.guards = some []) (room : Room (k + 1) X.A) (ho : VE X o m) (hb : attributeBase o f X.env (eval o X.env) = eval o X.env := by rfl) : VE X (.Attribute o f pos) (mProp C f fn m) := by
  obtain ⟨c, p, g, fd, rest, hm, cl, ci, fi, sp, tk', rc, bn, F⟩ := D.ex
  refine ⟨fun W tk => ⟨fun pn s σ H Q J want => ?_⟩⟩
  obtain ⟨B, F0, ρ, sr, h⟩ := want
  have rd : tV X.K X.mg W m σ H fun v H1 => ∃ a dx gs, v = .ref a ∧ H1 a = some (.ins c dx gs) ∧ spV X.K X.mg 1 fn [v] H1 Q fun _ _ _ => False := by
    refine ⟨B, F0, ρ, sr, h.bind.imp fun r ρ1 h v H1 F1 sr1 s1 rv => ?_⟩
    obtain ⟨d, F2, ρ2, sr2, s2, rep, h2⟩ := set1_run sr1 rv h.bind
    unfold propR at h2
    split at h2
    · rename_i ok
      cases d with
      | obj C' gs =>
        obtain ⟨ec, el⟩ := Bool.and_eq_true_iff.mp ok
        have ec := of_decide_eq_true ec
        subst ec
        have rep0 := rep
        cases rep with
        | obj ha hm' rk =>
          rw [hm] at hm'
          cases hm'
          refine ⟨_, _, _, rfl, sr2.same _ _ ha, ?_⟩
          have k := runF_sp (W := fun _ _ _ _ => False) (Q := Q) (n := 1) (fn := fn) sr2 (s1.trans s2) (.val rep0 .nil) (F0 := F0) (l := [.inl (.obj C' gs)]) ?_
          · exact k
          · unfold noexc at h2
            cases q : runF 1 fn [.inl (.obj C' gs)] ρ2 with
            | bad => rw [q] at h2; exact h2.elim
            | exc C2 fs2 ρ3 => rw [q] at h2; exact h2.elim
            | ok r3 ρ3 => rw [q] at h2; exact h2
      | _ => cases ok
    · exact h2.elim
  refine attr_of hb (thn ((ho.run W tk).run pn s σ H _ J rd) fun u s1 ⟨v, H1, I1, rx, a, dx, gs, ex, ea, q⟩ => ?_)
  subst ex
  obtain rfl : u = Value.ref a := rx
  exact getprop_V (W := W) I1 ea cl ci fi sp tk' rc bn F gd room q
end
end VE

set_option pp.oneline true
namespace VE
open PySem PySem.Spec PyProof.Rows L2 G0
/-! ### isinstance of an own class -/
def inOwn : TyN → Bool
  | .float => false
  | .set => false
  | .range => false
  | _ => true
structure Ic (K : PySem.W.Frag) (mg : Mg) (C : Str) : Prop where
  ex : ∃ c : Addr, mg C = some (.ref c) ∧ Cls K c ∧ PySem.W.findIn K (.ref c) "__class__" = some (some (.builtin "object.__class__")) ∧ PySem.W.specialIn K (.builtin "object.__class__") "__get__" = some (some (.builtin "getset_descriptor.__get__")) ∧
    PySem.W.takesIn K (.builtin "object.__class__") = some true ∧ PySem.W.mroIn K c (.type "object") = some true ∧ ∀ T, inOwn T = true → PySem.W.kitOne K (.type T.s) (.ref c) = some false
theorem kit_own {K : PySem.W.Frag} {C : Addr} : PySem.W.kitOne K (.ref C) (.ref C) = some true := by
  unfold PySem.W.kitOne
  rw [if_pos (by simp)]
def bIsiC (C : Str) : List D → Option RV
  | [.obj C2 _, .cls C'] => if C' = C ∧ C2 = C then rB true else none
  | [d, .cls C'] => if C' = C then ((tyN d).bind fun T => if inOwn T = true then rB false else none) else none
  | _ => none
theorem RepT.cls_ {K : PySem.W.Frag} {mg : Mg} {F H : Hp} {v : V} {C : Str} (h : RepT K mg F H v (.cls C)) : ∃ c, v = .ref c ∧ mg C = some (.ref c) := by
  cases h with
  | of h => cases h with | cls h => exact ⟨_, rfl, h⟩
  | ob _ _ e => exact Ob.cases_ e (fun _ z => nomatch z) (fun _ z => nomatch z) fun _ z => nomatch z
section
variable {X : Cx} {C : Str}
theorem c_isiC (I0 : Ic X.K X.mg C) : CallR X (.builtin "isinstance") (rC X.K X.mg (bIsiC C)) := by
  rintro pins s σ H vs us Q I rv ⟨F, ds, r, sf, hs, e, q⟩
  obtain ⟨c, hm, cl, ha, hn, htk, hmr, hk⟩ := I0.ex
  unfold bIsiC at e
  split at e
  · split at e
    · rename_i ec
      obtain ⟨rfl, rfl⟩ := ec
      cases e
      obtain ⟨v, w, rfl, h1, h2⟩ := hs.two
      obtain ⟨c', rfl, hm'⟩ := h2.cls_
      rw [hm] at hm'
      cases hm'
      obtain ⟨a, c2, dx, vs, rfl, e1, hm2, rk⟩ := h1.obj_ sf
      rw [hm] at hm2
      cases hm2
      exact call_isi pins s σ H _ us Q I rv ⟨_, _, _, _, true, rfl, .own c, .base (.ins e1 cl ha hn htk hmr), kit_own, q _ _ _ (.same sf (.bl _))⟩
    · cases e
  · split at e
    · rename_i ec
      subst ec
      obtain ⟨v, w, rfl, h1, h2⟩ := hs.two
      obtain ⟨c', rfl, hm'⟩ := h2.cls_
      rw [hm] at hm'
      cases hm'
      obtain ⟨T, hT, e⟩ := opt_bind e
      split at e
      · rename_i io
        cases e
        exact call_isi pins s σ H _ us Q I rv ⟨_, _, _, _, false, rfl, .own c, h1.tyx sf hT, hk T io, q _ _ _ (.same sf (.bl _))⟩
      · cases e
    · cases e
  · cases e
end
/-! ### == of instances with an own one -/
/-- data handed to a def, as they stand -/
theorem spV_data {K : PySem.W.Frag} {mg : Mg} {fn : Fn} {H : Hp} {v w : V} {d e : D} {Q : L2.VK} {r : D} {ρ' : Rho} (h1 : Rep K mg H v d) (h2 : Rep K mg H w e) (hr : fn [.val d, .val e] = .ok (.val r) ρ') (hq : ∀ v' H', Same H H' → Rep K mg H' v' r → Q v' H') : spV K mg 2 fn [v, w] H Q fun _ _ _ => False := by
  refine ⟨rfl, ⟨H, H, fun _ => none⟩, H, [.val d, .val e], rfl, rfl, ⟨rfl, Same.refl _, Same.refl _, fun a _ e => e, fun a u e _ => e, fun i a e => (nomatch e), fun i j a e => (nomatch e), ?_, ?_⟩, ?_⟩
  · intro i s e0
    match i, e0 with
    | 0, e0 => cases e0; exact ⟨_, rfl, h1⟩
    | 1, e0 => cases e0; exact ⟨_, rfl, h2⟩
    | i + 2, e0 => simp at e0
  · intro i j o o' a e0
    match i, e0 with
    | 0, e0 => cases e0
    | 1, e0 => cases e0
    | i + 2, e0 => simp at e0
  · rw [hr]
    intro v' σ' H' F' sr s rv
    exact hq v' H' (s.trans sr.same) (Rep.same sr.same rv)
structure Ec (P : Program) (w : World) (K : PySem.W.Frag) (mg : Mg) (base : Heap) (k : Nat) (C : Str) (ps : List Str) (fn : Fn) : Prop where
  ex : ∃ (c g : Addr) (fd : FuncData), mg C = some (.ref c) ∧ PySem.W.findIn K (.ref c) "__eq__" = some (some (.ref g)) ∧ PySem.W.isFn K (.ref g) = true ∧ PySem.W.notFirst K c (.type "list") = true ∧ PySem.W.notFirst K c (.type "tuple") = true ∧ Binds K fd ps [] ∧ FnV P w K mg base k g fd ps (spV K mg ps.length fn)
def eqR (fn : Fn) (d e : D) : Option Bool := match fn [.val d, .val e] with
  | .ok (.val (.bl b)) _ => some b
  | _ => none
def opEqC (C : Str) (fn : Fn) (d e : D) : Option RV := match d with
  | .obj C1 _ => if C1 = C then (match e with
    | .obj C2 _ => if C2 = C then (eqR fn d e).bind rB else none
    | .lst _ => (eqR fn d e).bind rB
    | .tup _ => (eqR fn d e).bind rB
    | _ => none) else none
  | _ => none
def opNeC (C : Str) (fn : Fn) (d e : D) : Option RV := match d, e with
  | .obj C1 _, .obj C2 _ => if C1 = C ∧ C2 = C then (eqR fn d e).bind fun b => rB (!b) else none
  | _, _ => none
theorem eqR_ok {fn : Fn} {d e : D} {b : Bool} (h : eqR fn d e = some b) : ∃ ρ, fn [.val d, .val e] = .ok (.val (.bl b)) ρ := by
  unfold eqR at h
  split at h
  · rename_i b' ρ q
    cases h
    exact ⟨ρ, q⟩
  · cases h
section
variable {X : Cx} {C x y : Str} {k : Nat} {fn : Fn}
theorem ins_look {pins : List (Addr × Obj)} {σ : L2.St} {H : Hp} {s : Shared} {a c dx : Addr} {fs : List (Str × V)} (J : Inv X pins σ H s) (e : H a = some (.ins c dx fs)) : ∃ od, PySem.W.InstAt s.heap a (PySem.W.instObj c dx) c (some od) := by
  obtain ⟨mA, O, _⟩ := ins_get J.hok e
  obtain ⟨od, I, _⟩ := O.look
  exact ⟨od, I⟩
theorem run_eq {pins : List (Addr × Obj)} {σ : L2.St} {H : Hp} {s : Shared} {u : Value} {a : Addr} {v : V} {Q : L2.VK} {g : Addr} {fd : FuncData} (F : FnV X.prog X.w X.K X.mg X.base k g fd [x, y] (spV X.K X.mg 2 fn)) (gd : X.A.guards = some []) (room : Room k X.A) (bn : Binds X.K fd [x, y] []) (J : Inv X pins σ H s) (ru : RelV v u)
    (q : spV X.K X.mg 2 fn [.ref a, v] H Q fun _ _ _ => False) : wpAny (model X.prog X.w) X.A (call (.ref g) [.ref a, u]) (EP X pins σ Q) X.xe s := by
  have b := bn s [.ref a, u] J.kIn rfl
  refine wpAny_call (codeAny_mono (F.run X.A X.stack s H ⟨[.ref a, u], []⟩ [.ref a, u] [.ref a, v] Q _ gd room J.env0 b (.cons rfl (.cons ru .nil)) q) fun res s2 got => ?_)
  match res, got with
  | .error _, got => obtain ⟨_, _, _, _, _, _, _, _, _, _, _, _, z⟩ := got; exact z.elim
  | .ok (.ret _), got => exact J.after got
  | .ok .next, got => exact got.elim
  | .ok .brk, got => exact got.elim
  | .ok .cont, got => exact got.elim
theorem o_eqC (E0 : Ec X.prog X.w X.K X.mg X.base k C [x, y] fn) (gd : X.A.guards = some []) (room : Room k X.A) : OpR X (compareOp .Eq) (rU X.K X.mg (opEqC C fn)) := by
  rintro pins s σ H v w u1 u2 Q J rx ry ⟨F, d, e, r, sf, h1, h2, hop, q⟩
  obtain ⟨c, g, fd, hm, hf, hfn, nl, nt, bn, Fv⟩ := E0.ex
  obtain ⟨m, hF⟩ := J.fr
  have main : ∀ {a dx : Addr} {fs : List (Str × V)} {tb : Value} {b : Bool}, v = .ref a → H a = some (.ins c dx fs) → (∀ M : Model, PySem.W.Looks M s.heap (typeOf u2) tb) → PySem.W.notFirst X.K c tb = true → eqR fn d e = some b → r = .val (.bl b) → wpAny (model X.prog X.w) X.A (compareOp .Eq u1 u2) (EP X pins σ Q) X.xe s := by
    intro a dx fs tb b ev ea looks nf hb er
    subst ev er
    cases rx
    obtain ⟨od, I⟩ := ins_look J ea
    obtain ⟨ρ, hr⟩ := eqR_ok hb
    refine PySem.W.cmp_K (op := .Eq) (tb := tb) room.units0 hF J.ok.mod.kin I (looks _) nf hf hfn ?_
    refine wpAny_mono (run_eq (Q := fun v' H' => v' = .bl b ∧ Q (.bl b) H') Fv gd room bn J ry (spV_data (h1.rep sf) (h2.rep sf) hr fun v' H' s' rp => ?_)) (fun r s2 got => ?_) fun _ _ z => z
    · cases rp
      exact ⟨rfl, q _ _ _ ⟨Same.refl _, s', sf.trans s', fun _ _ h => h, .bl b⟩⟩
    · obtain ⟨v2, H2, J2, rv, rfl, q2⟩ := got
      cases (show r = Value.bool b from rv)
      exact ⟨.bl b, H2, J2, rfl, q2⟩
  unfold opEqC at hop
  split at hop
  · split at hop
    · rename_i ec
      subst ec
      obtain ⟨a, c1, dx, fs, ev, ea, hm1, _⟩ := h1.obj_ sf
      rw [hm] at hm1
      cases hm1
      split at hop
      · split at hop
        · rename_i ec
          subst ec
          obtain ⟨b, hb, er⟩ := opt_bind hop
          obtain ⟨a2, c2, dx2, fs2, ev2, ea2, hm2, _⟩ := h2.obj_ sf
          rw [hm] at hm2
          cases hm2
          subst ev2
          cases ry
          obtain ⟨od2, I2⟩ := ins_look J ea2
          exact main ev ea (fun M => I2.type) (by simp [PySem.W.notFirst]) hb (Option.some.inj er).symm
        · cases hop
      · obtain ⟨b, hb, er⟩ := opt_bind hop
        obtain ⟨P, Z, p, _⟩ := kit_of J ry (h2.tyx sf (T := .list) rfl)
        exact main ev ea (fun M => Z.ty M _ J.kIn p) nl hb (Option.some.inj er).symm
      · obtain ⟨b, hb, er⟩ := opt_bind hop
        obtain ⟨P, Z, p, _⟩ := kit_of J ry (h2.tyx sf (T := .tuple) rfl)
        exact main ev ea (fun M => Z.ty M _ J.kIn p) nt hb (Option.some.inj er).symm
      · cases hop
    · cases hop
  · cases hop
end
end VE

set_option pp.oneline true
namespace VE
open PySem PySem.Spec PyProof.Rows L2 G0
/-- != where no own one is written -/
structure NeOwn (K : PySem.W.Frag) (C f : Addr) : Prop where
  ex : ∃ (of : Obj) (nm q : Str) (N : Addr) (bs : List Value) (sn : List Str) (sub : List Value) (ab : Bool) (col : Option Bool) (dd : Option Addr) (k0 k1 k2 k3 k5 : Option Value) (newId : String) (y : Option Value),
    K.lookup C = some (excClassObj nm q C N bs [.type "object"] true sn sub ab col dd k0 k1 k2 k3 k5 newId) ∧ PySem.W.nsOkIn K N = true ∧ PySem.W.nsIn K N "__eq__" = some (some (.ref f)) ∧ PySem.W.nsIn K N "__ne__" = some none ∧
    K.lookup f = some of ∧ of.cls = .type "function" ∧ typeLookup (.type "object") "__eq__" = pure y
theorem ns_some_of {K : PySem.W.Frag} {h : Heap} {N : Addr} {mN : Str → Option Value} {x : Str} {v : Value} (X : K.In h) (G : h.Ns N mN) (e : PySem.W.nsIn K N x = some (some v)) : mN x = some v := by
  obtain ⟨ob, es, ep, look, shape, _, finds⟩ := G
  unfold PySem.W.nsIn at e
  split at e
  · next c d es2 n2 sl here =>
    have same := X _ _ here
    rw [look] at same
    cases same
    cases shape
    split at e
    · next en found =>
      cases e
      rw [← finds]
      unfold nsFind findBy
      rw [← Array.find?_toList, found]
      rfl
    · split at e <;> cases e
  · cases e
structure Nc (P : Program) (w : World) (K : PySem.W.Frag) (mg : Mg) (base : Heap) (k : Nat) (C : Str) (ps : List Str) (fn : Fn) : Prop where
  ex : ∃ (c g : Addr) (fd : FuncData), mg C = some (.ref c) ∧ NeOwn K c g ∧ Binds K fd ps [] ∧ FnV P w K mg base k g fd ps (spV K mg ps.length fn)
section
variable {X : Cx} {C x y : Str} {k : Nat} {fn : Fn}
theorem o_neC (E0 : Nc X.prog X.w X.K X.mg X.base k C [x, y] fn) (gd : X.A.guards = some []) (room : Room (k + 1) X.A) : OpR X (compareOp .NotEq) (rU X.K X.mg (opNeC C fn)) := by
  rintro pins s σ H v w u1 u2 Q J rx ry ⟨F, d, e, r, sf, h1, h2, hop, q⟩
  obtain ⟨c, g, fd, hm, own, bn, Fv⟩ := E0.ex
  unfold opNeC at hop
  split at hop
  · split at hop
    · rename_i ec
      obtain ⟨rfl, rfl⟩ := ec
      obtain ⟨b, hb, er⟩ := opt_bind hop
      cases er
      obtain ⟨ρ, hr⟩ := eqR_ok hb
      obtain ⟨a, c1, dx, fs, rfl, ea, hm1, _⟩ := h1.obj_ sf
      rw [hm] at hm1
      cases hm1
      obtain ⟨a2, c2, dx2, fs2, rfl, ea2, hm2, _⟩ := h2.obj_ sf
      rw [hm] at hm2
      cases hm2
      cases rx
      cases ry
      obtain ⟨od, I⟩ := ins_look J ea
      obtain ⟨od2, I2⟩ := ins_look J ea2
      obtain ⟨of, nm, q0, N, bs, sn, sub, ab, col, dd, k0, k1, k2, k3, k5, newId, y0, lC, okN, nE, nN, lf, cf, hB⟩ := own.ex
      have NsN : s.heap.Ns N (s.heap.nsMap N) := .of_isNs (PySem.W.isNs_of_in J.kIn okN)
      have facts : s.heap.OwnEqNoNe a c g "object" [.type "object"] := by
        refine ⟨_, of, nm, q0, N, bs, true, sn, sub, ab, col, dd, k0, k1, k2, k3, k5, newId, s.heap.nsMap N, y0, I.at_, I.cls, J.kIn _ _ lC, NsN, ?_, J.kIn _ _ lf, cf, PySem.F.mro_object, hB, ?_⟩
        · exact ns_some_of J.kIn NsN nE
        · exact PySem.W.ns_none_of J.kIn NsN nN
      have un := room.un
      refine compareOp_ne_ownEq PySem.F.cmp_object facts I2.at_ I2.cls (by omega) ?_
      have bnd := bn s [.ref a, .ref a2] J.kIn rfl
      have want : spV X.K X.mg 2 fn [.ref a, .ref a2] H (fun v' H' => v' = .bl b ∧ Q (.bl (!b)) H') fun _ _ _ => False := spV_data (h1.rep sf) (h2.rep sf) hr fun v' H' s' rp => by
        cases rp
        exact ⟨rfl, q _ _ _ ⟨Same.refl _, s', sf.trans s', fun _ _ h => h, .bl _⟩⟩
      refine wpAny_call (codeAny_mono (Fv.run X.A.in1 X.stack s H ⟨[.ref a, .ref a2], []⟩ [.ref a, .ref a2] [.ref a, .ref a2] _ _ gd room.in1 J.env0.in1 bnd (.cons rfl (.cons rfl .nil)) want) fun res s2 got => ?_)
      match res, got with
      | .error _, got => obtain ⟨_, _, _, _, _, _, _, _, _, _, _, _, z⟩ := got; exact z.elim
      | .ok .next, got => exact got.elim
      | .ok .brk, got => exact got.elim
      | .ok .cont, got => exact got.elim
      | .ok (.ret w), got =>
        obtain ⟨v2, H2, J2, rv, rfl, q2⟩ := J.after got
        cases (show w = Value.bool b from rv)
        exact ⟨b, rfl, .bl (!b), H2, J2, rfl, q2⟩
    · cases hop
  · cases hop
end
end VE

set_option pp.oneline true
namespace VE
open PySem PySem.Spec PyProof.Rows L2 G0
/-! ### an own error without arguments: raised, caught -/
structure Xc (K : PySem.W.Frag) (mg : Mg) (C : Str) (B newId initId : String) (bmB : List Value) : Prop where
  ex : ∃ c : Addr, mg C = some (.ref c) ∧ ExcBaseFacts B newId initId bmB ∧ PySem.W.excIn K c bmB newId = true ∧ PySem.W.keepIn K (.ref c) = true ∧ PySem.W.subIn K (.ref c) (.type "BaseException") = some true ∧ PySem.W.typeIn K (.ref c) = some (.type "type") ∧ PySem.W.exmOne K (.ref c) (.ref c) = some true
section
variable {X : Cx} {C : Str} {B newId initId : String} {bmB : List Value} {p pos pos' np : Pos}
theorem pmk_own0 {c : Addr} (F : ExcBaseFacts B newId initId bmB) (q : PySem.W.excIn X.K c bmB newId = true) (gC : X.mg C = some (.ref c)) (kC : PySem.W.keepIn X.K (.ref c) = true) (r : Raises X (.ref c)) (hg : Gl X C) (hdb : (C == ("__debug__" : Str)) = false := by decide) :
    PMk X (.Call (.Name C p) [] [] pos) (fun _ H Q => Q (.ref c) none H) := by
  intro pins s σ H Q I h
  refine wpAny_Call_Name_kw (ld_glob I hg gC ?_ hdb)
  refine PySem.W.callWith_K0 (first := []) I.kIn kC ?_
  show wpAny _ _ (call (.ref c) []) _ _ _
  obtain ⟨hp, g, d, t, os⟩ := s
  obtain ⟨bm, N, nm, qn, bs, hdct, sn, sub, ab, col, dd, k0, k1, k2, k3, k5, mN, hC, hN, hni, T⟩ := exc_obj I.kIn q
  exact wpAny_call_exc_subT F T hC hN hni (fun h' e hm => mk_of I hm r h (I.hok.gone hm.new)) (Nat.zero_le _)
theorem vs_raise0 (hc : X.calm = true) (T : Xc X.K X.mg C B newId initId bmB) (hg : Gl X C := by rfl) (hdb : (C == ("__debug__" : Str)) = false := by decide) : VS X (.Raise (some (.Call (.Name C p) [] [] pos)) none pos') (fun ρ => .exc C none ρ) := by
  obtain ⟨c, gC, F, q, kC, h1, h2, _⟩ := T.ex
  refine ⟨fun W tk => (ps_raise hc tk (pmk_own0 F q gC kC (raises_own h1 h2) hg hdb)).imp fun σ H De ⟨B0, F0, ρ, sr, h⟩ => ?_⟩
  exact h c F0 σ H gC sr (Same.refl _)
/-- try with one clause, by name -/
def sTry1 (C : Str) (mb ms : M Flow) : M Flow := fun ρ => match mb ρ with
  | .exc C' _ ρ' => if C' = C then noexc ms ρ' else .bad
  | r => r
theorem vs_try1 {body suite : List Stmt} {b₀ : Stmt} {mb ms : M Flow} (T : Xc X.K X.mg C B newId initId bmB) (hb : ∀ (pn : List (Addr × Obj)) (xe : Value → Shared → Prop), VSs (X.tr pn xe) body mb)
    (hsu : ∀ (a : Addr) (pn : List (Addr × Obj)), VSs (X.suite a pn) (b₀ :: suite) ms) (hs : X.stack = X.env :: X.outer := by rfl) (hf : X.env.frame = some X.env.locals := by rfl) (hg : Gl X C := by rfl) (hdb : (C == ("__debug__" : Str)) = false := by decide) :
    VS X (.Try body [.ExceptHandler (some (.Name C np)) none (b₀ :: suite) pos'] [] [] pos) (sTry1 C mb ms) := by
  obtain ⟨c, gC, F, q, kC, h1, h2, h3⟩ := T.ex
  refine ⟨fun W tk => (ps_try_many (tb := fun W => tVS X.K X.mg W mb) (l := [(.ref c, fun _ _ _ => tVS X.K X.mg (fun _ _ _ _ => False) ms)]) hs hf tk (fun W' pn xe tk' _ => (hb pn xe).run W' tk') (.cons ⟨hg, hdb, .inl gC⟩ (fun a oe cls d pn _ _ => (hsu a ((a, oe) :: pn)).run _ L2.takes0) .nil)).imp fun σ H De ⟨B0, F0, ρ, sr, h⟩ => ?_⟩
  refine ⟨B0, F0, ρ, sr, ?_⟩
  unfold sTry1 at h
  cases hm : mb ρ with
  | bad => rw [hm] at h; exact h.elim
  | ok f ρ' => rw [hm] at h; exact h
  | exc C' fs ρ' =>
    rw [hm] at h
    dsimp only at h
    split at h
    · rename_i ec
      subst ec
      intro c' F' σ' H' hc' sr' s'
      rw [gC] at hc'
      cases hc'
      have go : ∀ d, wMany X.K W De [(.ref c, fun _ _ _ => tVS X.K X.mg (fun _ _ _ _ => False) ms)] (.ref c) d σ' H' := fun d => ⟨true, h3, fun _ a _ => ⟨B0, F', ρ', sr', by
        unfold noexc at h
        cases q2 : ms ρ' with
        | bad => rw [q2] at h; exact h.elim
        | exc C2 fs2 ρ2 => rw [q2] at h; exact h.elim
        | ok f ρ2 =>
          rw [q2] at h
          exact ends.mono s' h⟩, fun z => nomatch z⟩
      cases fs with
      | none => exact go _
      | some ds => exact fun d vs _ _ => go _
    · exact h.elim
end
end VE

set_option pp.oneline true
namespace VE
open PySem PySem.Spec PyProof.Rows L2 G0
/-! ### `is` with a truth on the right, whatever stands on the left -/
def opIsBx : D → D → Option RV
  | .bl c, .bl b => rB (decide (c = b))
  | .non, .bl _ => rB false
  | .lst _, .bl _ => rB false
  | .tup _, .bl _ => rB false
  | _, _ => none
section
variable {X : Cx}
theorem op_isNb : OpR X (compareOp .Is) (fun x y H Q => ∃ b : Bool, x = .non ∧ y = .bl b ∧ Q (.bl false) H) := by
  intro pins s σ H x y v u Q I rx ry h
  obtain ⟨b, rfl, rfl, q⟩ := h
  cases (show v = Value.none from rx)
  cases (show u = Value.bool b from ry)
  exact wpAny_is_other rfl (fun z => nomatch z) ⟨.bl false, H, I, rfl, q⟩
theorem op_isRb : OpR X (compareOp .Is) (fun x y H Q => ∃ (a : Addr) (b : Bool), x = .ref a ∧ y = .bl b ∧ Q (.bl false) H) := by
  intro pins s σ H x y v u Q I rx ry h
  obtain ⟨a, b, rfl, rfl, q⟩ := h
  cases (show v = Value.ref a from rx)
  cases (show u = Value.bool b from ry)
  exact wpAny_is_other rfl (fun z => nomatch z) ⟨.bl false, H, I, rfl, q⟩
theorem o_isBx : OpR X (compareOp .Is) (rU X.K X.mg opIsBx) := by
  rintro pins s σ H x y v u Q I rx ry ⟨F, d1, d2, r, sf, h1, h2, e, q⟩
  unfold opIsBx at e
  split at e
  · cases e
    exact op_isBl pins s σ H _ _ v u Q I rx ry ⟨_, _, h1.bl_, h2.bl_, q _ _ _ (.same sf (.bl _))⟩
  · cases e
    exact op_isNb pins s σ H _ _ v u Q I rx ry ⟨_, h1.non_, h2.bl_, q _ _ _ (.same sf (.bl _))⟩
  · cases e
    obtain ⟨a, vs, rfl, _⟩ := h1.lst_ sf
    exact op_isRb pins s σ H _ _ v u Q I rx ry ⟨_, _, rfl, h2.bl_, q _ _ _ (.same sf (.bl _))⟩
  · cases e
    obtain ⟨a, vs, rfl, _⟩ := h1.tup_
    exact op_isRb pins s σ H _ _ v u Q I rx ry ⟨_, _, rfl, h2.bl_, q _ _ _ (.same sf (.bl _))⟩
  · cases e
end
end VE

set_option pp.oneline true
namespace VE
open PySem PySem.Spec PyProof.Rows L2 G0
/-! ### own classes, from what the text wrote: isinstance, !=, properties, errors -/
theorem kit_none {K : PySem.W.Frag} {C : Addr} {T : String} {cd : ClassData} (h1 : PySem.W.clsIn K C = some cd) (h2 : PySem.W.typeIn K (.ref C) = some (.type "type")) (h3 : PySem.W.subIn K (.type T) (.ref C) = some false) : PySem.W.kitOne K (.type T) (.ref C) = some false := by
  unfold PySem.W.kitOne
  rw [if_neg (by intro e; simp at e)]
  unfold PySem.W.kitCls
  simp only [h1, h2, h3]
  rfl
theorem ns_ok {K : PySem.W.Frag} {N : Addr} {oN : Value} {dN : Option Addr} {es : Array DictEntry} {nN : Nat} {sl : Array (Option Value)} (h : K.lookup N = some ⟨oN, dN, .dict es nN, sl⟩) (q : (es.toList.all fun e => match e.key with | .str _ _ => true | _ => false) = true) : PySem.W.nsOkIn K N = true := by
  unfold PySem.W.nsOkIn
  rw [h]
  exact Array.all_toList.symm.trans q
theorem ne_mk {K : PySem.W.Frag} {C f N : Addr} {nm q : Str} {bs : List Value} {sn : List Str} {sub : List Value} {ab : Bool} {col : Option Bool} {dd : Option Addr} {k0 k1 k2 k3 k5 : Option Value} {newId : String} {oN : Value} {dN : Option Addr} {es : Array DictEntry} {nN : Nat} {sl : Array (Option Value)} {of : Obj}
    (h1 : K.lookup C = some (excClassObj nm q C N bs [.type "object"] true sn sub ab col dd k0 k1 k2 k3 k5 newId)) (h2 : K.lookup N = some ⟨oN, dN, .dict es nN, sl⟩) (h3 : (es.toList.all fun e => match e.key with | .str _ _ => true | _ => false) = true) (h4 : PySem.W.nsIn K N "__eq__" = some (some (.ref f))) (h5 : PySem.W.nsIn K N "__ne__" = some none)
    (h6 : K.lookup f = some of) (h7 : PySem.W.isFn K (.ref f) = true) : NeOwn K C f := by
  obtain ⟨y, hy⟩ : ∃ y, typeLookup (.type "object") "__eq__" = pure y := ⟨_, rfl⟩
  refine ⟨of, nm, q, N, bs, sn, sub, ab, col, dd, k0, k1, k2, k3, k5, newId, y, h1, ns_ok h2 h3, h4, h5, h6, ?_, hy⟩
  have e := beq_iff_eq.mp h7
  unfold PySem.W.typeIn at e
  simp only [h6] at e
  simpa using e
theorem ic_mk {K : PySem.W.Frag} {mg : Mg} {C : Str} {c : Addr} {cd : ClassData} (hm : mg C = some (.ref c)) (cl : Cls K c) (h1 : PySem.W.findIn K (.ref c) "__class__" = some (some (.builtin "object.__class__"))) (h2 : PySem.W.specialIn K (.builtin "object.__class__") "__get__" = some (some (.builtin "getset_descriptor.__get__")))
    (h3 : PySem.W.takesIn K (.builtin "object.__class__") = some true) (h4 : PySem.W.mroIn K c (.type "object") = some true) (x1 : PySem.W.clsIn K c = some cd) (x2 : PySem.W.typeIn K (.ref c) = some (.type "type"))
    (y1 : PySem.W.subIn K (.type "int") (.ref c) = some false) (y2 : PySem.W.subIn K (.type "bool") (.ref c) = some false) (y3 : PySem.W.subIn K (.type "list") (.ref c) = some false) (y4 : PySem.W.subIn K (.type "tuple") (.ref c) = some false) (y5 : PySem.W.subIn K (.type "str") (.ref c) = some false) (y6 : PySem.W.subIn K (.type "dict") (.ref c) = some false) (y7 : PySem.W.subIn K (.type "NoneType") (.ref c) = some false) : Ic K mg C :=
  ⟨c, hm, cl, h1, h2, h3, h4, fun T hT => match T, hT with
    | .int, _ => kit_none x1 x2 y1
    | .bool, _ => kit_none x1 x2 y2
    | .list, _ => kit_none x1 x2 y3
    | .tuple, _ => kit_none x1 x2 y4
    | .str, _ => kit_none x1 x2 y5
    | .dict, _ => kit_none x1 x2 y6
    | .none, _ => kit_none x1 x2 y7
    | .float, h => nomatch h
    | .set, h => nomatch h
    | .range, h => nomatch h⟩
theorem pv_mk {P : Program} {w : World} {K : PySem.W.Frag} {mg : Mg} {base : Heap} {k : Nat} {C f : Str} {ps : List Str} {fn : Fn} {c p g : Addr} {fd : FuncData} {rest : List Value} {cd : ClassData} (hm : mg C = some (.ref c)) (cl : Cls K c) (x1 : PySem.W.clsIn K c = some cd) (h1 : PySem.W.findIn K (.ref c) f = some (some (.ref p)))
    (h2 : PySem.W.specialIn K (.ref p) "__get__" = some (some (.builtin "property.__get__"))) (h3 : PySem.W.takesIn K (.ref p) = some true) (h4 : PySem.W.recIn K p "property" = some (.ref g :: rest)) (b : Binds K fd ps []) (F : FnV P w K mg base k g fd ps (spV K mg ps.length fn)) : Pv P w K mg base k C f ps fn :=
  ⟨c, p, g, fd, rest, hm, cl, by rw [x1]; rfl, h1, h2, h3, h4, b, F⟩
end VE

set_option pp.oneline true
namespace VE
open PySem PySem.Spec PyProof.Rows L2 G0
def top (i : Nat) : Stmt := PySem.Challenge.pw_pointrows_k52_whole_stairs_have_their_ro.main.body.getD i (.Pass ⟨0, 0, 0, 0⟩)
noncomputable section
variable {P : Program} {w : World} {K : PySem.W.Frag} {mg : Mg} {base : Heap}
abbrev s__law_draw : Stmt := top 76
def m__law_draw : M Flow :=
  (sSeq (sIf (mB (mOp opGt (mOp opIx (mPlF 0) (mVal (.int 0))) (mVal (.int 0)))) (sSeq (sAsg (mC bDivmod (mCons (mOp opIx (mPlF 0) (mVal (.int 0))) (mCons (mPlF 1) mNil))) (gT 2 (gCons (gSub 0 (mVal (.int 0))) (gCons (gNF 2) gNil))))
      (sRet (mPlF 2))) sNx)
    (sSeq (sAsg (mOp opMod (mC bInt (mCons (mOp opAdd (mOp opMul (mOp opIx (mPlF 0) (mVal (.int 1))) (mVal (.int 39373))) (mVal (.int 7027))) mNil)) (mVal (.int 2147483587))) (gSub 0 (mVal (.int 1))))
    (sRet (mOp opMod (mC bInt (mCons (mOp opFdiv (mOp opMod (mC bInt (mCons (mOp opMul (mOp opIx (mPlF 0) (mVal (.int 1))) (mOp opIx (mPlF 0) (mVal (.int 1)))) mNil)) (mVal (.int 2147483563))) (mVal (.int 17))) mNil)) (mPlF 1)))))
abbrev F__law_draw : Fn := fnBody 3 m__law_draw
theorem sc__law_draw : FnScope ["_law_pot_here", "_law_size", "_law_digit"] ["_law_pot_here", "_law_size"] (defScope s__law_draw) := ⟨rfl, rfl, rfl, by decide +kernel, rfl, by decide +kernel, by decide +kernel⟩
theorem ok__law_draw (B : Bt mg) {f : Addr} {fd : FuncData} (F : Fun K "_law_draw" "_law_draw" s__law_draw f fd) : FnV P w K mg base 1 f fd ["_law_pot_here", "_law_size"] (spV K mg 2 F__law_draw) :=
  fnV_of F sc__law_draw fun cdv A outer s H E gd room =>
    (vss_cons (vs_if (vt_cmp o_gt (ve_ix (ve_vF 0) ve_int) ve_int (nomark _)) (vss_cons (vs_asg (ve_callB c_divmod B.divmod b_divmod (va_cons (ve_ix (ve_vF 0) ve_int) (va_cons (ve_vF 1) va_nil))) (vg_tup rfl (vgs_cons (vg_sub (pv 0) ve_int) (vgs_cons (vg_nameF (i := 2) sc__law_draw.nd rfl (Or.inl rfl)) vgs_nil))) (fun _ => (calm_gT (calm_gCons (fun _ => calm_gSub) (calm_gCons (fun _ => calm_gNF) (fun _ => calm_gNil))))))
      (vss_one (vs_ret (ve_vF 2)))) vss_nil)
    (vss_cons (vs_asg (ve_op o_mod (ve_callTy c_int B.int b_int (va_cons (ve_op o_add (ve_op o_mul (ve_ix (ve_vF 0) ve_int) ve_int) ve_int) va_nil)) ve_int) (vg_sub (pv 0) ve_int) (fun _ => calm_gSub))
    (vss_one (vs_ret (ve_op o_mod (ve_callTy c_int B.int b_int (va_cons (ve_op o_fdiv (ve_op o_mod (ve_callTy c_int B.int b_int (va_cons (ve_op o_mul (ve_ix (ve_vF 0) ve_int) (ve_ix (ve_vF 0) ve_int)) va_nil)) ve_int) ve_int) va_nil)) (ve_vF 1))))))
abbrev s__law_row : Stmt := top 78
def m__law_row : M Flow :=
  (sSeq (sAsg (mOp opAdd (mVal (.int 1)) (mCall 2 [true, false] F__law_draw (mCons (mPlF 0) (mCons (mVal (.int 6)) mNil)))) (gNF 2))
    (sSeq (sFor (mRng1 (mCons (mVal (.int 6)) mNil)) (gNF 3) (sIf (mB (mOp opGt (mOp opFdiv (mOp opMul (mPlF 2) (mOp opAdd (mPlF 2) (mVal (.int 1)))) (mVal (.int 2))) (mPlF 1))) (sAsg (mOp opSub (mPlF 2) (mVal (.int 1))) (gNF 2)) sNx))
    (sSeq (sAsg (mC bList (mCons (mC bRange (mCons (mVal (.int 1)) (mCons (mOp opAdd (mPlF 2) (mVal (.int 1))) mNil))) mNil)) (gNF 4))
    (sSeq (sFor (mRng1 (mCons (mCall 2 [true, false] F__law_draw (mCons (mPlF 0) (mCons (mVal (.int 8)) mNil))) mNil)) (gNF 3) (sSeq (sAsg (mC bMin (mCons (mOp opIx (mPlF 4) (mUn opNeg (mVal (.int 1)))) (mCons (mOp opSub (mPlF 1) (mC bSum (mCons (mPlF 4) mNil))) mNil))) (gNF 5))
      (sSeq (sIf (mOrT (mB (mOp opLt (mPlF 5) (mVal (.int 1)))) (mB (mOp opEq (mC bLen (mCons (mPlF 4) mNil)) (mVal (.int 9))))) (sRet (mPlF 4)) sNx)
      (sExp (mMut opAppend 4 (mCons (mOp opAdd (mVal (.int 1)) (mCall 2 [true, false] F__law_draw (mCons (mPlF 0) (mCons (mPlF 5) mNil)))) mNil))))))
    (sRet (mPlF 4))))))
abbrev F__law_row : Fn := fnBody 6 m__law_row
theorem sc__law_row : FnScope ["_law_pot_here", "_law_most", "_law_rise", "_law_turn", "_law_found", "_law_room"] ["_law_pot_here", "_law_most"] (defScope s__law_row) := ⟨rfl, rfl, rfl, by decide +kernel, rfl, by decide +kernel, by decide +kernel⟩
theorem ok__law_row (B : Bt mg) (D__law_draw : Dv P w K mg base 1 "_law_draw" s__law_draw ["_law_pot_here", "_law_size"] F__law_draw) {f : Addr} {fd : FuncData} (F : Fun K "_law_row" "_law_row" s__law_row f fd) : FnV P w K mg base 2 f fd ["_law_pot_here", "_law_most"] (spV K mg 2 F__law_row) :=
  fnV_of F sc__law_row fun cdv A outer s H E gd room =>
    (vss_cons (vs_setF (i := 2) sc__law_row.nd rfl (Or.inl rfl) (ve_op o_add ve_int (ve_callC D__law_draw gd room [true, false] (va_cons (ve_vF 0) (va_cons ve_int va_nil)))))
    (vss_cons (vs_for (fun _ _ => passes_of rfl) rfl (vi_range1 B.range (va_cons ve_int va_nil)) (vg_nameF (i := 3) sc__law_row.nd rfl (Or.inl rfl)) (fun _ => calm_gNF) (vss_one (vs_if (vt_cmp o_gt (ve_op o_fdiv (ve_op o_mul (ve_vF 2) (ve_op o_add (ve_vF 2) ve_int)) ve_int) (ve_vF 1) (nomark _)) (vss_one (vs_setF (i := 2) sc__law_row.nd rfl (Or.inl rfl) (ve_op o_sub (ve_vF 2) ve_int))) vss_nil)))
    (vss_cons (vs_setF (i := 4) sc__law_row.nd rfl (Or.inl rfl) (ve_callTy (c_list rfl) B.list b_list (va_cons (ve_callTy c_range B.range b_range (va_cons ve_int (va_cons (ve_op o_add (ve_vF 2) ve_int) va_nil))) va_nil)))
    (vss_cons (vs_for (fun _ _ => passes_of rfl) rfl (vi_range1 B.range (va_cons (ve_callC D__law_draw gd room [true, false] (va_cons (ve_vF 0) (va_cons ve_int va_nil))) va_nil)) (vg_nameF (i := 3) sc__law_row.nd rfl (Or.inl rfl)) (fun _ => calm_gNF) (vss_cons (vs_setF (i := 5) sc__law_row.nd rfl (Or.inl rfl) (ve_callB (c_min rfl) B.min b_min (va_cons (ve_ix (ve_vF 4) (ve_un o_neg ve_int)) (va_cons (ve_op o_sub (ve_vF 1) (ve_callB (c_sum rfl) B.sum b_sum (va_cons (ve_vF 4) va_nil))) va_nil))))
      (vss_cons (vs_if (VW.t (vw_or (vt_cmp o_lt (ve_vF 5) ve_int (nomark _)) (vw_or1 (vt_cmp (o_eq (hu64 room)) (ve_callB c_len B.len b_len (va_cons (ve_vF 4) va_nil)) ve_int (nomark _))))) (vss_one (vs_ret (ve_vF 4))) vss_nil)
      (vss_one (vs_expr (ve_mut PySem.F.plainAttrs_list PySem.F.slot_list_append PySem.F.type_list_append m_append (pv 4) (va_cons (ve_op o_add ve_int (ve_callC D__law_draw gd room [true, false] (va_cons (ve_vF 0) (va_cons (ve_vF 5) va_nil)))) va_nil)))))))
    (vss_one (vs_ret (ve_vF 4)))))))
abbrev s__law_passed : Stmt := top 79
def m__law_passed : M Flow :=
  (sRet (mIf (mB (mOp opEq (mCall 2 [true, false] F__law_draw (mCons (mPlF 0) (mCons (mVal (.int 2)) mNil))) (mVal (.int 0)))) (mC bTuple (mCons (mPlF 1) mNil)) (mC bList (mCons (mPlF 1) mNil))))
abbrev F__law_passed : Fn := fnBody 2 m__law_passed
theorem sc__law_passed : FnScope ["_law_pot_here", "_law_numbers"] ["_law_pot_here", "_law_numbers"] (defScope s__law_passed) := ⟨rfl, rfl, rfl, by decide +kernel, rfl, by decide +kernel, by decide +kernel⟩
theorem ok__law_passed (B : Bt mg) (D__law_draw : Dv P w K mg base 1 "_law_draw" s__law_draw ["_law_pot_here", "_law_size"] F__law_draw) {f : Addr} {fd : FuncData} (F : Fun K "_law_passed" "_law_passed" s__law_passed f fd) : FnV P w K mg base 2 f fd ["_law_pot_here", "_law_numbers"] (spV K mg 2 F__law_passed) :=
  fnV_of F sc__law_passed fun cdv A outer s H E gd room =>
    (vss_one (vs_ret (ve_if (vt_cmp (o_eq (hu64 room)) (ve_callC D__law_draw gd room [true, false] (va_cons (ve_vF 0) (va_cons ve_int va_nil))) ve_int (nomark _)) (ve_callTy c_tuple B.tuple b_tuple (va_cons (ve_vF 1) va_nil)) (ve_callTy (c_list rfl) B.list b_list (va_cons (ve_vF 1) va_nil)))))
abbrev s__law_points : Stmt := top 80
def m__law_points : M Flow :=
  (sSeq (sAsg (mLst mNil) (gNF 1))
    (sSeq (sFor (mRng1 (mCons (mVal (.int 9)) mNil)) (gNF 2) (sFor (mRng1 (mCons (mVal (.int 9)) mNil)) (gNF 3) (sIf (mAndT (mB (mOp opLt (mOp opAdd (mPlF 2) (mPlF 3)) (mC bLen (mCons (mPlF 0) mNil)))) (mB (mOp opLt (mPlF 3) (mOp opIx (mPlF 0) (mOp opAdd (mPlF 2) (mPlF 3)))))) (sExp (mMut opAppend 1 (mCons (mTup (mCons (mOp opAdd (mPlF 2) (mPlF 3)) (mCons (mPlF 3) (mCons (mPlF 2) mNil)))) mNil))) sNx)))
    (sRet (mLC (mIt (mC bSorted (mCons (mPlF 1) mNil))) (gT 3 (gCons (gNF 4) (gCons (gNF 3) (gCons (gNF 2) gNil)))) tt1 (mTup (mCons (mPlF 2) (mCons (mPlF 3) (mCons (mVal (.int 1)) mNil)))) [4, 3, 2]))))
abbrev F__law_points : Fn := fnBody 5 m__law_points
theorem sc__law_points : FnScope ["_law_numbers", "_law_found", "_law_first", "_law_second", "_law_both"] ["_law_numbers"] (defScope s__law_points) := ⟨rfl, rfl, rfl, by decide +kernel, rfl, by decide +kernel, by decide +kernel⟩
theorem ok__law_points (B : Bt mg) {f : Addr} {fd : FuncData} (F : Fun K "_law_points" "_law_points" s__law_points f fd) : FnV P w K mg base 1 f fd ["_law_numbers"] (spV K mg 1 F__law_points) :=
  fnV_of F sc__law_points fun cdv A outer s H E gd room =>
    (vss_cons (vs_setF (i := 1) sc__law_points.nd rfl (Or.inl rfl) (ve_lst va_nil))
    (vss_cons (vs_for (fun _ _ => passes_of rfl) rfl (vi_range1 B.range (va_cons ve_int va_nil)) (vg_nameF (i := 2) sc__law_points.nd rfl (Or.inl rfl)) (fun _ => calm_gNF) (vss_one (vs_for (fun _ _ => passes_of rfl) rfl (vi_range1 B.range (va_cons ve_int va_nil)) (vg_nameF (i := 3) sc__law_points.nd rfl (Or.inl rfl)) (fun _ => calm_gNF) (vss_one (vs_if (VW.t (vw_and (vt_cmp o_lt (ve_op o_add (ve_vF 2) (ve_vF 3)) (ve_callB c_len B.len b_len (va_cons (ve_vF 0) va_nil)) (nomark _)) (vw_and1 (vt_cmp o_lt (ve_vF 3) (ve_ix (ve_vF 0) (ve_op o_add (ve_vF 2) (ve_vF 3))) (nomark _))))) (vss_one (vs_expr (ve_mut PySem.F.plainAttrs_list PySem.F.slot_list_append PySem.F.type_list_append m_append (pv 1) (va_cons (ve_tup (va_cons (ve_op o_add (ve_vF 2) (ve_vF 3)) (va_cons (ve_vF 3) (va_cons (ve_vF 2) va_nil)))) va_nil)))) vss_nil)))))
    (vss_one (vs_ret (ve_lc (own := [("_law_both", 4), ("_law_second", 3), ("_law_first", 2)]) rfl sc__law_points.nd (vi_any (ve_callB (c_sorted (hu80 room)) B.sorted b_sorted (va_cons (ve_vF 1) va_nil))) (blkOk_by (N := ["_law_numbers", "_law_found", "_law_first", "_law_second", "_law_both"]) (sc := defScope s__law_points) (by decide +kernel)) (by decide) (fun _ _ _ _ _ => (vg_tup rfl (vgs_cons (vg_nameF (i := 4) sc__law_points.nd rfl (Or.inl rfl)) (vgs_cons (vg_nameF (i := 3) sc__law_points.nd rfl (Or.inl rfl)) (vgs_cons (vg_nameF (i := 2) sc__law_points.nd rfl (Or.inl rfl)) vgs_nil))))) (fun _ _ _ _ _ => vts_nil) (fun _ _ _ _ _ => (ve_tup (va_cons (ve_vF 2) (va_cons (ve_vF 3) (va_cons ve_int va_nil))))))))))
abbrev s__law_pick : Stmt := top 77
def m__law_pick : M Flow :=
  (sRet (mOp opIx (mPlF 1) (mCall 2 [true, false] F__law_draw (mCons (mPlF 0) (mCons (mC bLen (mCons (mPlF 1) mNil)) mNil)))))
abbrev F__law_pick : Fn := fnBody 2 m__law_pick
theorem sc__law_pick : FnScope ["_law_pot_here", "_law_some"] ["_law_pot_here", "_law_some"] (defScope s__law_pick) := ⟨rfl, rfl, rfl, by decide +kernel, rfl, by decide +kernel, by decide +kernel⟩
theorem ok__law_pick (B : Bt mg) (D__law_draw : Dv P w K mg base 1 "_law_draw" s__law_draw ["_law_pot_here", "_law_size"] F__law_draw) {f : Addr} {fd : FuncData} (F : Fun K "_law_pick" "_law_pick" s__law_pick f fd) : FnV P w K mg base 2 f fd ["_law_pot_here", "_law_some"] (spV K mg 2 F__law_pick) :=
  fnV_of F sc__law_pick fun cdv A outer s H E gd room =>
    (vss_one (vs_ret (ve_ix (ve_vF 1) (ve_callC D__law_draw gd room [true, false] (va_cons (ve_vF 0) (va_cons (ve_callB c_len B.len b_len (va_cons (ve_vF 1) va_nil)) va_nil))))))
abbrev s_is_list : Stmt := top 5
def m_is_list : M Flow :=
  (sRet (mC bIsi (mCons (mPlF 0) (mCons (mTup (mCons (mVal (.ty .list)) (mCons (mVal (.ty .tuple)) mNil))) mNil))))
abbrev F_is_list : Fn := fnBody 1 m_is_list
theorem sc_is_list : FnScope ["value"] ["value"] (defScope s_is_list) := ⟨rfl, rfl, rfl, by decide +kernel, rfl, by decide +kernel, by decide +kernel⟩
theorem ok_is_list (B : Bt mg) {f : Addr} {fd : FuncData} (F : Fun K "is_list" "is_list" s_is_list f fd) : FnV P w K mg base 1 f fd ["value"] (spV K mg 1 F_is_list) :=
  fnV_of F sc_is_list fun cdv A outer s H E gd room =>
    (vss_one (vs_ret (ve_callB c_isi B.isinstance b_isinstance (va_cons (ve_vF 0) (va_cons (ve_tup (va_cons (ve_ty B.list b_list) (va_cons (ve_ty B.tuple b_tuple) va_nil))) va_nil)))))
abbrev s_is_integer : Stmt := top 3
def m_is_integer : M Flow :=
  (sRet (mAndV (mC bIsi (mCons (mPlF 0) (mCons (mVal (.ty .int)) mNil))) (mNotV (mC bIsi (mCons (mPlF 0) (mCons (mVal (.ty .bool)) mNil))))))
abbrev F_is_integer : Fn := fnBody 1 m_is_integer
theorem sc_is_integer : FnScope ["value"] ["value"] (defScope s_is_integer) := ⟨rfl, rfl, rfl, by decide +kernel, rfl, by decide +kernel, by decide +kernel⟩
theorem ok_is_integer (B : Bt mg) {f : Addr} {fd : FuncData} (F : Fun K "is_integer" "is_integer" s_is_integer f fd) : FnV P w K mg base 1 f fd ["value"] (spV K mg 1 F_is_integer) :=
  fnV_of F sc_is_integer fun cdv A outer s H E gd room =>
    (vss_one (vs_ret (ve_and (ve_callB c_isi B.isinstance b_isinstance (va_cons (ve_vF 0) (va_cons (ve_ty B.int b_int) va_nil))) (ve_one (ve_not (ve_callB c_isi B.isinstance b_isinstance (va_cons (ve_vF 0) (va_cons (ve_ty B.bool b_bool) va_nil))))))))
abbrev s_is_count : Stmt := top 4
def m_is_count : M Flow :=
  (sRet (mAndV (mCall 1 [false] F_is_integer (mCons (mPlF 0) mNil)) (mOp opGe (mPlF 0) (mVal (.int 0)))))
abbrev F_is_count : Fn := fnBody 1 m_is_count
theorem sc_is_count : FnScope ["value"] ["value"] (defScope s_is_count) := ⟨rfl, rfl, rfl, by decide +kernel, rfl, by decide +kernel, by decide +kernel⟩
theorem ok_is_count (B : Bt mg) (D_is_integer : Dv P w K mg base 1 "is_integer" s_is_integer ["value"] F_is_integer) {f : Addr} {fd : FuncData} (F : Fun K "is_count" "is_count" s_is_count f fd) : FnV P w K mg base 2 f fd ["value"] (spV K mg 1 F_is_count) :=
  fnV_of F sc_is_count fun cdv A outer s H E gd room =>
    (vss_one (vs_ret (ve_and (ve_callC D_is_integer gd room [false] (va_cons (ve_vF 0) va_nil)) (ve_one (ve_cmp o_ge (ve_vF 0) ve_int (nomark _))))))
abbrev s_is_counts : Stmt := top 43
def m_is_counts : M Flow :=
  (sRet (mAndV (mCall 1 [false] F_is_list (mCons (mPlF 0) mNil)) (mAndV (mOp opGt (mC bLen (mCons (mPlF 0) mNil)) (mVal (.int 0))) (mC bAll (mCons (mLC (mIt (mPlF 0)) (gNF 1) tt1 (mCall 1 [false] F_is_count (mCons (mPlF 1) mNil)) [1]) mNil)))))
abbrev F_is_counts : Fn := fnBody 2 m_is_counts
theorem sc_is_counts : FnScope ["value", "number"] ["value"] (defScope s_is_counts) := ⟨rfl, rfl, rfl, by decide +kernel, rfl, by decide +kernel, by decide +kernel⟩
theorem ok_is_counts (B : Bt mg) (D_is_count : Dv P w K mg base 2 "is_count" s_is_count ["value"] F_is_count) (D_is_list : Dv P w K mg base 1 "is_list" s_is_list ["value"] F_is_list) {f : Addr} {fd : FuncData} (F : Fun K "is_counts" "is_counts" s_is_counts f fd) : FnV P w K mg base 3 f fd ["value"] (spV K mg 1 F_is_counts) :=
  fnV_of F sc_is_counts fun cdv A outer s H E gd room =>
    (vss_one (vs_ret (ve_and (ve_callC D_is_list gd (room.mono (by decide : 1 ≤ 2)) [false] (va_cons (ve_vF 0) va_nil)) (ve_and (ve_cmp o_gt (ve_callB c_len B.len b_len (va_cons (ve_vF 0) va_nil)) ve_int (nomark _)) (ve_one (ve_callB (c_all rfl) B.all b_all (va_cons (ve_lc (own := [("number", 1)]) rfl sc_is_counts.nd (vi_any (ve_vF 0)) (blkOk_by (N := ["value", "number"]) (sc := defScope s_is_counts) (by decide +kernel)) (by decide) (fun _ _ _ _ _ => (vg_nameF (i := 1) sc_is_counts.nd rfl (Or.inl rfl))) (fun _ _ _ _ _ => vts_nil) (fun _ _ _ _ _ => (ve_callC D_is_count gd room [false] (va_cons (ve_vF 1) va_nil)))) va_nil)))))))
abbrev s_first_fault : Stmt := top 44
def m_first_fault : M Flow :=
  (sSeq (sAsg (mTup (mCons (mVal (.int 0)) (mCons (mVal (.int 0)) mNil))) (gT 2 (gCons (gNF 1) (gCons (gNF 2) gNil))))
    (sSeq (sFor (mEnum (mCons (mPlF 0) mNil)) (gT 2 (gCons (gNF 3) (gCons (gNF 4) gNil))) (sSeq (sAugF 2 (· + ·) (mPlF 4))
      (sSeq (sAsg (mAndV (mOp opEq (mPlF 1) (mPlF 3)) (mOp opEq (mPlF 4) (mOp opAdd (mPlF 3) (mVal (.int 1))))) (gNF 5))
      (sSeq (sIf (mOrT (mB (mOp opEq (mPlF 3) (mVal (.int 9)))) (mOrT (mB (mOp opGt (mPlF 2) (mVal (.int 24)))) (mNotT (mOrT (mT (mPlF 5)) (mB (mChain opLt opLe (mVal (.int 0)) (mPlF 4) (mPlF 1))))))) (sRet (mPlF 3)) sNx)
      (sAsg (mPlF 4) (gNF 1))))))
    (sRet (mVal .non))))
abbrev F_first_fault : Fn := fnBody 6 m_first_fault
theorem sc_first_fault : FnScope ["counts", "ahead", "total", "place", "number", "rises"] ["counts"] (defScope s_first_fault) := ⟨rfl, rfl, rfl, by decide +kernel, rfl, by decide +kernel, by decide +kernel⟩
theorem ok_first_fault (B : Bt mg) {t_MOST_PLACES : Tok} (m_MOST_PLACES : mg "MOST_PLACES" = some (.int 9 t_MOST_PLACES)) {t_MOST_SUM : Tok} (m_MOST_SUM : mg "MOST_SUM" = some (.int 24 t_MOST_SUM)) {f : Addr} {fd : FuncData} (F : Fun K "first_fault" "first_fault" s_first_fault f fd) : FnV P w K mg base 1 f fd ["counts"] (spV K mg 1 F_first_fault) :=
  fnV_of F sc_first_fault fun cdv A outer s H E gd room =>
    (vss_cons (vs_asg (ve_tup (va_cons ve_int (va_cons ve_int va_nil))) (vg_tup rfl (vgs_cons (vg_nameF (i := 1) sc_first_fault.nd rfl (Or.inl rfl)) (vgs_cons (vg_nameF (i := 2) sc_first_fault.nd rfl (Or.inl rfl)) vgs_nil))) (fun _ => (calm_gT (calm_gCons (fun _ => calm_gNF) (calm_gCons (fun _ => calm_gNF) (fun _ => calm_gNil))))))
    (vss_cons (vs_for (fun _ _ => passes_of rfl) rfl (vi_enum B.enumerate (va_cons (ve_vF 0) va_nil)) (vg_tup rfl (vgs_cons (vg_nameF (i := 3) sc_first_fault.nd rfl (Or.inl rfl)) (vgs_cons (vg_nameF (i := 4) sc_first_fault.nd rfl (Or.inl rfl)) vgs_nil))) (fun _ => (calm_gT (calm_gCons (fun _ => calm_gNF) (calm_gCons (fun _ => calm_gNF) (fun _ => calm_gNil))))) (vss_cons (vs_augF (i := 2) ip_add sc_first_fault.nd rfl (Or.inl rfl) (ve_vF 4))
      (vss_cons (vs_setF (i := 5) sc_first_fault.nd rfl (Or.inl rfl) (ve_and (ve_cmp (o_eq (hu64 room)) (ve_vF 1) (ve_vF 3) (nomark _)) (ve_one (ve_cmp (o_eq (hu64 room)) (ve_vF 4) (ve_op o_add (ve_vF 3) ve_int) (nomark _)))))
      (vss_cons (vs_if (VW.t (vw_or (vt_cmp (o_eq (hu64 room)) (ve_vF 3) (ve_globI m_MOST_PLACES) (nomark _)) (vw_or (vt_cmp o_gt (ve_vF 2) (ve_globI m_MOST_SUM) (nomark _)) (vw_or1 (vt_not (VW.t (vw_or (vt_tru (ve_vF 5)) (vw_or1 (vt_chain o_lt o_le ve_int (ve_vF 4) (ve_vF 1)))))))))) (vss_one (vs_ret (ve_vF 3))) vss_nil)
      (vss_one (vs_setF (i := 1) sc_first_fault.nd rfl (Or.inl rfl) (ve_vF 4)))))))
    (vss_one (vs_ret ve_non))))
abbrev s_is_row : Stmt := top 42
def m_is_row : M Flow :=
  (sRet (mAndV (mCall 1 [false] F_is_counts (mCons (mPlF 0) mNil)) (mOp opIsN (mCall 1 [false] F_first_fault (mCons (mPlF 0) mNil)) (mVal .non))))
abbrev F_is_row : Fn := fnBody 1 m_is_row
theorem sc_is_row : FnScope ["value"] ["value"] (defScope s_is_row) := ⟨rfl, rfl, rfl, by decide +kernel, rfl, by decide +kernel, by decide +kernel⟩
theorem ok_is_row (B : Bt mg) (D_first_fault : Dv P w K mg base 1 "first_fault" s_first_fault ["counts"] F_first_fault) (D_is_counts : Dv P w K mg base 3 "is_counts" s_is_counts ["value"] F_is_counts) {f : Addr} {fd : FuncData} (F : Fun K "is_row" "is_row" s_is_row f fd) : FnV P w K mg base 4 f fd ["value"] (spV K mg 1 F_is_row) :=
  fnV_of F sc_is_row fun cdv A outer s H E gd room =>
    (vss_one (vs_ret (ve_and (ve_callC D_is_counts gd room [false] (va_cons (ve_vF 0) va_nil)) (ve_one (ve_cmp o_isN (ve_callC D_first_fault gd (room.mono (by decide : 1 ≤ 3)) [false] (va_cons (ve_vF 0) va_nil)) ve_non (nomark _))))))
abbrev s_check_row : Stmt := top 45
def m_check_row : M Flow :=
  (sIf (mNotT (mT (mCall 1 [false] F_is_row (mCons (mPlF 0) mNil)))) (fun _ => .bad) sNx)
abbrev F_check_row : Fn := fnBody 1 m_check_row
theorem sc_check_row : FnScope ["row"] ["row"] (defScope s_check_row) := ⟨rfl, rfl, rfl, by decide +kernel, rfl, by decide +kernel, by decide +kernel⟩
theorem ok_check_row (B : Bt mg) (D_is_row : Dv P w K mg base 4 "is_row" s_is_row ["value"] F_is_row) {f : Addr} {fd : FuncData} (F : Fun K "check_row" "check_row" s_check_row f fd) : FnV P w K mg base 5 f fd ["row"] (spV K mg 1 F_check_row) :=
  fnV_of F sc_check_row fun cdv A outer s H E gd room =>
    (vss_one (vs_if (vt_not (vt_tru (ve_callC D_is_row gd room [false] (va_cons (ve_vF 0) va_nil)))) (vss_one vs_bad) vss_nil))
abbrev s_is_three : Stmt := top 24
def m_is_three : M Flow :=
  (sRet (mAndV (mCall 1 [false] F_is_list (mCons (mPlF 0) mNil)) (mAndV (mOp opEq (mC bLen (mCons (mPlF 0) mNil)) (mVal (.int 3))) (mC bAll (mCons (mLC (mIt (mPlF 0)) (gNF 1) tt1 (mCall 1 [false] F_is_integer (mCons (mPlF 1) mNil)) [1]) mNil)))))
abbrev F_is_three : Fn := fnBody 2 m_is_three
theorem sc_is_three : FnScope ["value", "number"] ["value"] (defScope s_is_three) := ⟨rfl, rfl, rfl, by decide +kernel, rfl, by decide +kernel, by decide +kernel⟩
theorem ok_is_three (B : Bt mg) (D_is_integer : Dv P w K mg base 1 "is_integer" s_is_integer ["value"] F_is_integer) (D_is_list : Dv P w K mg base 1 "is_list" s_is_list ["value"] F_is_list) {f : Addr} {fd : FuncData} (F : Fun K "is_three" "is_three" s_is_three f fd) : FnV P w K mg base 2 f fd ["value"] (spV K mg 1 F_is_three) :=
  fnV_of F sc_is_three fun cdv A outer s H E gd room =>
    (vss_one (vs_ret (ve_and (ve_callC D_is_list gd room [false] (va_cons (ve_vF 0) va_nil)) (ve_and (ve_cmp (o_eq (hu64 room)) (ve_callB c_len B.len b_len (va_cons (ve_vF 0) va_nil)) ve_int (nomark _)) (ve_one (ve_callB (c_all rfl) B.all b_all (va_cons (ve_lc (own := [("number", 1)]) rfl sc_is_three.nd (vi_any (ve_vF 0)) (blkOk_by (N := ["value", "number"]) (sc := defScope s_is_three) (by decide +kernel)) (by decide) (fun _ _ _ _ _ => (vg_nameF (i := 1) sc_is_three.nd rfl (Or.inl rfl))) (fun _ _ _ _ _ => vts_nil) (fun _ _ _ _ _ => (ve_callC D_is_integer gd room [false] (va_cons (ve_vF 1) va_nil)))) va_nil)))))))
abbrev s_is_point : Stmt := top 35
def m_is_point : M Flow :=
  (sRet (mAndV (mCall 1 [false] F_is_three (mCons (mPlF 0) mNil)) (mC bAny (mCons (mLC (mIt (mPlF 0)) (gNF 1) tt1 (mOp opNe (mPlF 1) (mVal (.int 0))) [1]) mNil))))
abbrev F_is_point : Fn := fnBody 2 m_is_point
theorem sc_is_point : FnScope ["value", "number"] ["value"] (defScope s_is_point) := ⟨rfl, rfl, rfl, by decide +kernel, rfl, by decide +kernel, by decide +kernel⟩
theorem ok_is_point (B : Bt mg) (D_is_three : Dv P w K mg base 2 "is_three" s_is_three ["value"] F_is_three) {f : Addr} {fd : FuncData} (F : Fun K "is_point" "is_point" s_is_point f fd) : FnV P w K mg base 3 f fd ["value"] (spV K mg 1 F_is_point) :=
  fnV_of F sc_is_point fun cdv A outer s H E gd room =>
    (vss_one (vs_ret (ve_and (ve_callC D_is_three gd room [false] (va_cons (ve_vF 0) va_nil)) (ve_one (ve_callB (c_any rfl) B.any b_any (va_cons (ve_lc (own := [("number", 1)]) rfl sc_is_point.nd (vi_any (ve_vF 0)) (blkOk_by (N := ["value", "number"]) (sc := defScope s_is_point) (by decide +kernel)) (by decide) (fun _ _ _ _ _ => (vg_nameF (i := 1) sc_is_point.nd rfl (Or.inl rfl))) (fun _ _ _ _ _ => vts_nil) (fun _ _ _ _ _ => (ve_cmp (o_ne (hu64 room)) (ve_vF 1) ve_int (nomark _)))) va_nil))))))
abbrev s_divisor : Stmt := top 20
def m_divisor : M Flow :=
  (sSeq (sAsg (mVal (.int 0)) (gNF 1))
    (sSeq (sFor (mIt (mPlF 0)) (gNF 2) (sAsg (mC bGcd (mCons (mPlF 1) (mCons (mPlF 2) mNil))) (gNF 1)))
    (sRet (mPlF 1))))
abbrev F_divisor : Fn := fnBody 3 m_divisor
theorem sc_divisor : FnScope ["numbers", "common", "number"] ["numbers"] (defScope s_divisor) := ⟨rfl, rfl, rfl, by decide +kernel, rfl, by decide +kernel, by decide +kernel⟩
theorem ok_divisor (B : Bt mg) (hG : mg "gcd" = some (.builtin "math.gcd")) {f : Addr} {fd : FuncData} (F : Fun K "divisor" "divisor" s_divisor f fd) : FnV P w K mg base 1 f fd ["numbers"] (spV K mg 1 F_divisor) :=
  fnV_of F sc_divisor fun cdv A outer s H E gd room =>
    (vss_cons (vs_setF (i := 1) sc_divisor.nd rfl (Or.inl rfl) ve_int)
    (vss_cons (vs_for (fun _ _ => passes_of rfl) rfl (vi_any (ve_vF 0)) (vg_nameF (i := 2) sc_divisor.nd rfl (Or.inl rfl)) (fun _ => calm_gNF) (vss_one (vs_setF (i := 1) sc_divisor.nd rfl (Or.inl rfl) (ve_callG c_gcd hG (va_cons (ve_vF 1) (va_cons (ve_vF 2) va_nil))))))
    (vss_one (vs_ret (ve_vF 1)))))
abbrev s_plain : Stmt := top 21
def m_plain : M Flow :=
  (sSeq (sAsg (mCall 1 [false] F_divisor (mCons (mPlF 0) mNil)) (gNF 1))
    (sSeq (sAsg (mOp opIx (mLC (mIt (mPlF 0)) (gNF 3) (mB (mOp opNe (mPlF 3) (mVal (.int 0)))) (mPlF 3) [3]) (mVal (.int 0))) (gNF 2))
    (sSeq (sIf (mB (mOp opLt (mPlF 2) (mVal (.int 0)))) (sAsg (mUn opNeg (mPlF 1)) (gNF 1)) sNx)
    (sRet (mLC (mIt (mPlF 0)) (gNF 3) tt1 (mOp opFdiv (mPlF 3) (mPlF 1)) [3])))))
abbrev F_plain : Fn := fnBody 4 m_plain
theorem sc_plain : FnScope ["numbers", "common", "first", "number"] ["numbers"] (defScope s_plain) := ⟨rfl, rfl, rfl, by decide +kernel, rfl, by decide +kernel, by decide +kernel⟩
theorem ok_plain (B : Bt mg) (D_divisor : Dv P w K mg base 1 "divisor" s_divisor ["numbers"] F_divisor) {f : Addr} {fd : FuncData} (F : Fun K "plain" "plain" s_plain f fd) : FnV P w K mg base 2 f fd ["numbers"] (spV K mg 1 F_plain) :=
  fnV_of F sc_plain fun cdv A outer s H E gd room =>
    (vss_cons (vs_setF (i := 1) sc_plain.nd rfl (by first | exact Or.inr rfl | exact Or.inl rfl) (ve_callC D_divisor gd room [false] (va_cons (ve_vF 0) va_nil)))
    (vss_cons (vs_setF (i := 2) sc_plain.nd rfl (Or.inl rfl) (ve_ix (ve_lc (own := [("number", 3)]) rfl sc_plain.nd (vi_any (ve_vF 0)) (blkOk_by (N := ["numbers", "common", "first", "number"]) (sc := defScope s_plain) (by decide +kernel)) (by decide) (fun _ _ _ _ _ => (vg_nameF (i := 3) sc_plain.nd rfl (Or.inl rfl))) (fun _ _ _ _ _ => (vts_one (vt_cmp (o_ne (hu64 room)) (ve_vF 3) ve_int (nomark _)))) (fun _ _ _ _ _ => (ve_vF 3))) ve_int))
    (vss_cons (vs_if (vt_cmp o_lt (ve_vF 2) ve_int (nomark _)) (vss_one (vs_setF (i := 1) sc_plain.nd rfl (by first | exact Or.inr rfl | exact Or.inl rfl) (ve_un o_neg (ve_vF 1)))) vss_nil)
    (vss_one (vs_ret (ve_lc (own := [("number", 3)]) rfl sc_plain.nd (vi_any (ve_vF 0)) (blkOk_by (N := ["numbers", "common", "first", "number"]) (sc := defScope s_plain) (by decide +kernel)) (by decide) (fun _ _ _ _ _ => (vg_nameF (i := 3) sc_plain.nd rfl (Or.inl rfl))) (fun _ _ _ _ _ => vts_nil) (fun _ _ _ _ _ => (ve_op o_fdiv (ve_vF 3) (ve_vF 1)))))))))
abbrev s_told_point : Stmt := top 36
def m_told_point : M Flow :=
  (sSeq (sIf (mNotT (mT (mCall 1 [false] F_is_point (mCons (mPlF 0) mNil)))) (fun _ => .bad) sNx)
    (sRet (mC bTuple (mCons (mCall 1 [false] F_plain (mCons (mPlF 0) mNil)) mNil))))
abbrev F_told_point : Fn := fnBody 1 m_told_point
theorem sc_told_point : FnScope ["point"] ["point"] (defScope s_told_point) := ⟨rfl, rfl, rfl, by decide +kernel, rfl, by decide +kernel, by decide +kernel⟩
theorem ok_told_point (B : Bt mg) (D_is_point : Dv P w K mg base 3 "is_point" s_is_point ["value"] F_is_point) (D_plain : Dv P w K mg base 2 "plain" s_plain ["numbers"] F_plain) {f : Addr} {fd : FuncData} (F : Fun K "told_point" "told_point" s_told_point f fd) : FnV P w K mg base 4 f fd ["point"] (spV K mg 1 F_told_point) :=
  fnV_of F sc_told_point fun cdv A outer s H E gd room =>
    (vss_cons (vs_if (vt_not (vt_tru (ve_callC D_is_point gd room [false] (va_cons (ve_vF 0) va_nil)))) (vss_one vs_bad) vss_nil)
    (vss_one (vs_ret (ve_callTy c_tuple B.tuple b_tuple (va_cons (ve_callC D_plain gd (room.mono (by decide : 2 ≤ 3)) [false] (va_cons (ve_vF 0) va_nil)) va_nil)))))
abbrev s_Spots_init : Stmt := inClass (top 37) 0
def m_Spots_init : M Flow :=
  (sSeq (sIf (mOrT (mNotT (mT (mCall 1 [false] F_is_list (mCons (mPlF 1) mNil)))) (mNotT (mB (mChain opLe opLe (mVal (.int 1)) (mC bLen (mCons (mPlF 1) mNil)) (mVal (.int 24)))))) (fun _ => .bad) sNx)
    (sSeq (sAsg (mLst mNil) (gNF 2))
    (sSeq (sFor (mEnum (mCons (mPlF 1) mNil)) (gT 2 (gCons (gNF 3) (gCons (gNF 4) gNil))) (sSeq (sIf (mOrT (mNotT (mT (mCall 1 [false] F_is_point (mCons (mPlF 4) mNil)))) (mB (mOp opIn (mCall 1 [false] F_told_point (mCons (mPlF 4) mNil)) (mPlF 2)))) (fun _ => .bad) sNx)
      (sExp (mMut opAppend 2 (mCons (mCall 1 [false] F_told_point (mCons (mPlF 4) mNil)) mNil)))))
    (sFldV "Spots" "_points" 0 (mPlF 2)))))
abbrev F_Spots_init : Fn := fnBody 5 m_Spots_init
theorem sc_Spots_init : FnScope ["self", "points", "told", "position", "point"] ["self", "points"] (defScope s_Spots_init) := ⟨rfl, rfl, rfl, by decide +kernel, rfl, by decide +kernel, by decide +kernel⟩
theorem ok_Spots_init (B : Bt mg) {t_MOST_POINTS : Tok} (m_MOST_POINTS : mg "MOST_POINTS" = some (.int 24 t_MOST_POINTS)) (T_Spots : CV K mg "Spots" ["_points"]) (D_is_list : Dv P w K mg base 1 "is_list" s_is_list ["value"] F_is_list) (D_is_point : Dv P w K mg base 3 "is_point" s_is_point ["value"] F_is_point) (D_told_point : Dv P w K mg base 4 "told_point" s_told_point ["point"] F_told_point) {f : Addr} {fd : FuncData} (F : Fun K "__init__" "Spots.__init__" s_Spots_init f fd) : FnV P w K mg base 5 f fd ["self", "points"] (spV K mg 2 F_Spots_init) :=
  fnV_of F sc_Spots_init fun cdv A outer s H E gd room =>
    (vss_cons (vs_if (VW.t (vw_or (vt_not (vt_tru (ve_callC D_is_list gd (room.mono (by decide : 1 ≤ 4)) [false] (va_cons (ve_vF 1) va_nil)))) (vw_or1 (vt_not (vt_chain o_le o_le ve_int (ve_callB c_len B.len b_len (va_cons (ve_vF 1) va_nil)) (ve_globI m_MOST_POINTS)))))) (vss_one vs_bad) vss_nil)
    (vss_cons (vs_setF (i := 2) sc_Spots_init.nd rfl (Or.inl rfl) (ve_lst va_nil))
    (vss_cons (vs_for (fun _ _ => passes_of rfl) rfl (vi_enum B.enumerate (va_cons (ve_vF 1) va_nil)) (vg_tup rfl (vgs_cons (vg_nameF (i := 3) sc_Spots_init.nd rfl (Or.inl rfl)) (vgs_cons (vg_nameF (i := 4) sc_Spots_init.nd rfl (Or.inl rfl)) vgs_nil))) (fun _ => (calm_gT (calm_gCons (fun _ => calm_gNF) (calm_gCons (fun _ => calm_gNF) (fun _ => calm_gNil))))) (vss_cons (vs_if (VW.t (vw_or (vt_not (vt_tru (ve_callC D_is_point gd (room.mono (by decide : 3 ≤ 4)) [false] (va_cons (ve_vF 4) va_nil)))) (vw_or1 (vt_cmp (o_in (hu65 room)) (ve_callC D_told_point gd room [false] (va_cons (ve_vF 4) va_nil)) (ve_vF 2) rfl)))) (vss_one vs_bad) vss_nil)
      (vss_one (vs_expr (ve_mut PySem.F.plainAttrs_list PySem.F.slot_list_append PySem.F.type_list_append m_append (pv 2) (va_cons (ve_callC D_told_point gd room [false] (va_cons (ve_vF 4) va_nil)) va_nil))))))
    (vss_one (vs_fld T_Spots (pv 0) (ve_vF 2))))))
abbrev s_stair : Stmt := top 47
def m_stair : M Flow :=
  (sSeq (sExp (mCall 1 [false] F_check_row (mCons (mPlF 0) mNil)))
    (sRet (mNew "Spots" 2 F_Spots_init (mCons (mLC2 (mEnum (mCons (mPlF 0) mNil)) (gT 2 (gCons (gNF 1) (gCons (gNF 2) gNil))) tt1 (mRng1 (mCons (mPlF 2) mNil)) (gNF 3) tt1 (mTup (mCons (mOp opSub (mPlF 1) (mPlF 3)) (mCons (mPlF 3) (mCons (mVal (.int 1)) mNil)))) [1, 2, 3] [3]) mNil))))
abbrev F_stair : Fn := fnBody 4 m_stair
theorem sc_stair : FnScope ["row", "place", "number", "j"] ["row"] (defScope s_stair) := ⟨rfl, rfl, rfl, by decide +kernel, rfl, by decide +kernel, by decide +kernel⟩
theorem ok_stair (B : Bt mg) (D_check_row : Dv P w K mg base 5 "check_row" s_check_row ["row"] F_check_row) (I_Spots : Iv P w K mg base 5 "Spots" ["self", "points"] F_Spots_init) {f : Addr} {fd : FuncData} (F : Fun K "stair" "stair" s_stair f fd) : FnV P w K mg base 7 f fd ["row"] (spV K mg 1 F_stair) :=
  fnV_of F sc_stair fun cdv A outer s H E gd room =>
    (vss_cons (vs_expr (ve_callC D_check_row gd (room.mono (by decide : 5 ≤ 6)) [false] (va_cons (ve_vF 0) va_nil)))
    (vss_one (vs_ret (ve_new I_Spots gd room (va_cons (ve_lc2 (own := [("place", 1), ("number", 2), ("j", 3)]) (vs1 := [3]) rfl sc_stair.nd (vi_enum B.enumerate (va_cons (ve_vF 0) va_nil)) (blkOk_by (N := ["row", "place", "number", "j"]) (sc := defScope s_stair) (by decide +kernel)) (by decide) (by decide) (by decide) (fun _ _ _ _ _ => (vg_tup rfl (vgs_cons (vg_nameF (i := 1) sc_stair.nd rfl (Or.inl rfl)) (vgs_cons (vg_nameF (i := 2) sc_stair.nd rfl (Or.inl rfl)) vgs_nil)))) (fun _ _ _ _ _ => vts_nil) (fun _ _ _ _ _ => (vi_range1 B.range (va_cons (ve_vF 2) va_nil))) (fun _ _ _ _ _ => (vg_nameF (i := 3) sc_stair.nd rfl (Or.inl rfl))) (fun _ _ _ _ _ => vts_nil) (fun _ _ _ _ _ => (ve_tup (va_cons (ve_op o_sub (ve_vF 1) (ve_vF 3)) (va_cons (ve_vF 3) (va_cons ve_int va_nil)))))) va_nil)))))
abbrev s_Spots___eq__ : Stmt := inClass (top 37) 2
def m_Spots___eq__ : M Flow :=
  (sRet (mAndV (mC (bIsiC "Spots") (mCons (mPlF 1) (mCons (mVal (.cls "Spots")) mNil))) (mOp opEq (mFld "Spots" "_points" (mPlF 0)) (mFld "Spots" "_points" (mPlF 1)))))
abbrev F_Spots___eq__ : Fn := fnBody 2 m_Spots___eq__
theorem sc_Spots___eq__ : FnScope ["self", "other"] ["self", "other"] (defScope s_Spots___eq__) := ⟨rfl, rfl, rfl, by decide +kernel, rfl, by decide +kernel, by decide +kernel⟩
theorem ok_Spots___eq__ (B : Bt mg) {c_Spots : Addr} (m_Spots : mg "Spots" = some (.ref c_Spots)) (T_Spots : CV K mg "Spots" ["_points"]) (IC_Spots : Ic K mg "Spots") {f : Addr} {fd : FuncData} (F : Fun K "__eq__" "Spots.__eq__" s_Spots___eq__ f fd) : FnV P w K mg base 1 f fd ["self", "other"] (spV K mg 2 F_Spots___eq__) :=
  fnV_of F sc_Spots___eq__ fun cdv A outer s H E gd room =>
    (vss_one (vs_ret (ve_and (ve_callB (c_isiC IC_Spots) B.isinstance b_isinstance (va_cons (ve_vF 1) (va_cons (ve_cls m_Spots) va_nil))) (ve_one (ve_cmp (o_eq (hu64 room)) (ve_fld T_Spots (ve_vF 0)) (ve_fld T_Spots (ve_vF 1)) (nomark _))))))
abbrev s_check_spots : Stmt := top 38
def m_check_spots : M Flow :=
  (sIf (mNotT (mT (mC (bIsiC "Spots") (mCons (mPlF 0) (mCons (mVal (.cls "Spots")) mNil))))) (fun _ => .bad) sNx)
abbrev F_check_spots : Fn := fnBody 1 m_check_spots
theorem sc_check_spots : FnScope ["spots"] ["spots"] (defScope s_check_spots) := ⟨rfl, rfl, rfl, by decide +kernel, rfl, by decide +kernel, by decide +kernel⟩
theorem ok_check_spots (B : Bt mg) {c_Spots : Addr} (m_Spots : mg "Spots" = some (.ref c_Spots)) (IC_Spots : Ic K mg "Spots") {f : Addr} {fd : FuncData} (F : Fun K "check_spots" "check_spots" s_check_spots f fd) : FnV P w K mg base 1 f fd ["spots"] (spV K mg 1 F_check_spots) :=
  fnV_of F sc_check_spots fun cdv A outer s H E gd room =>
    (vss_one (vs_if (vt_not (vt_tru (ve_callB (c_isiC IC_Spots) B.isinstance b_isinstance (va_cons (ve_vF 0) (va_cons (ve_cls m_Spots) va_nil))))) (vss_one vs_bad) vss_nil))
abbrev s_dot : Stmt := top 26
def m_dot : M Flow :=
  (sRet (mC bSum (mCons (mLC (mZip (mCons (mPlF 0) (mCons (mPlF 1) mNil))) (gT 2 (gCons (gNF 2) (gCons (gNF 3) gNil))) tt1 (mOp opMul (mPlF 2) (mPlF 3)) [2, 3]) mNil)))
abbrev F_dot : Fn := fnBody 4 m_dot
theorem sc_dot : FnScope ["numbers", "others", "number", "other"] ["numbers", "others"] (defScope s_dot) := ⟨rfl, rfl, rfl, by decide +kernel, rfl, by decide +kernel, by decide +kernel⟩
theorem ok_dot (B : Bt mg) {f : Addr} {fd : FuncData} (F : Fun K "dot" "dot" s_dot f fd) : FnV P w K mg base 1 f fd ["numbers", "others"] (spV K mg 2 F_dot) :=
  fnV_of F sc_dot fun cdv A outer s H E gd room =>
    (vss_one (vs_ret (ve_callB (c_sum rfl) B.sum b_sum (va_cons (ve_lc (own := [("number", 2), ("other", 3)]) rfl sc_dot.nd (vi_zip B.zip (va_cons (ve_vF 0) (va_cons (ve_vF 1) va_nil))) (blkOk_by (N := ["numbers", "others", "number", "other"]) (sc := defScope s_dot) (by decide +kernel)) (by decide) (fun _ _ _ _ _ => (vg_tup rfl (vgs_cons (vg_nameF (i := 2) sc_dot.nd rfl (Or.inl rfl)) (vgs_cons (vg_nameF (i := 3) sc_dot.nd rfl (Or.inl rfl)) vgs_nil)))) (fun _ _ _ _ _ => vts_nil) (fun _ _ _ _ _ => (ve_op o_mul (ve_vF 2) (ve_vF 3)))) va_nil))))
abbrev s_crossed : Stmt := top 27
def m_crossed : M Flow :=
  (sSeq (sAsg (mPlF 0) (gT 3 (gCons (gNF 2) (gCons (gNF 3) (gCons (gNF 4) gNil)))))
    (sSeq (sAsg (mPlF 1) (gT 3 (gCons (gNF 5) (gCons (gNF 6) (gCons (gNF 7) gNil)))))
    (sRet (mLst (mCons (mOp opSub (mOp opMul (mPlF 3) (mPlF 7)) (mOp opMul (mPlF 4) (mPlF 6))) (mCons (mOp opSub (mOp opMul (mPlF 4) (mPlF 5)) (mOp opMul (mPlF 2) (mPlF 7))) (mCons (mOp opSub (mOp opMul (mPlF 2) (mPlF 6)) (mOp opMul (mPlF 3) (mPlF 5))) mNil)))))))
abbrev F_crossed : Fn := fnBody 8 m_crossed
theorem sc_crossed : FnScope ["one", "other", "a", "b", "c", "d", "e", "f"] ["one", "other"] (defScope s_crossed) := ⟨rfl, rfl, rfl, by decide +kernel, rfl, by decide +kernel, by decide +kernel⟩
theorem ok_crossed (B : Bt mg) {f : Addr} {fd : FuncData} (F : Fun K "crossed" "crossed" s_crossed f fd) : FnV P w K mg base 1 f fd ["one", "other"] (spV K mg 2 F_crossed) :=
  fnV_of F sc_crossed fun cdv A outer s H E gd room =>
    (vss_cons (vs_asg (ve_vF 0) (vg_tup rfl (vgs_cons (vg_nameF (i := 2) sc_crossed.nd rfl (Or.inl rfl)) (vgs_cons (vg_nameF (i := 3) sc_crossed.nd rfl (Or.inl rfl)) (vgs_cons (vg_nameF (i := 4) sc_crossed.nd rfl (Or.inl rfl)) vgs_nil)))) (fun _ => (calm_gT (calm_gCons (fun _ => calm_gNF) (calm_gCons (fun _ => calm_gNF) (calm_gCons (fun _ => calm_gNF) (fun _ => calm_gNil)))))))
    (vss_cons (vs_asg (ve_vF 1) (vg_tup rfl (vgs_cons (vg_nameF (i := 5) sc_crossed.nd rfl (Or.inl rfl)) (vgs_cons (vg_nameF (i := 6) sc_crossed.nd rfl (Or.inl rfl)) (vgs_cons (vg_nameF (i := 7) sc_crossed.nd rfl (Or.inl rfl)) vgs_nil)))) (fun _ => (calm_gT (calm_gCons (fun _ => calm_gNF) (calm_gCons (fun _ => calm_gNF) (calm_gCons (fun _ => calm_gNF) (fun _ => calm_gNil)))))))
    (vss_one (vs_ret (ve_lst (va_cons (ve_op o_sub (ve_op o_mul (ve_vF 3) (ve_vF 7)) (ve_op o_mul (ve_vF 4) (ve_vF 6))) (va_cons (ve_op o_sub (ve_op o_mul (ve_vF 4) (ve_vF 5)) (ve_op o_mul (ve_vF 2) (ve_vF 7))) (va_cons (ve_op o_sub (ve_op o_mul (ve_vF 2) (ve_vF 6)) (ve_op o_mul (ve_vF 3) (ve_vF 5))) va_nil))))))))
abbrev s_determinant : Stmt := top 28
def m_determinant : M Flow :=
  (sRet (mCall 2 [false, false] F_dot (mCons (mOp opIx (mPlF 0) (mVal (.int 0))) (mCons (mCall 2 [false, false] F_crossed (mCons (mOp opIx (mPlF 0) (mVal (.int 1))) (mCons (mOp opIx (mPlF 0) (mVal (.int 2))) mNil))) mNil))))
abbrev F_determinant : Fn := fnBody 1 m_determinant
theorem sc_determinant : FnScope ["rows"] ["rows"] (defScope s_determinant) := ⟨rfl, rfl, rfl, by decide +kernel, rfl, by decide +kernel, by decide +kernel⟩
theorem ok_determinant (B : Bt mg) (D_crossed : Dv P w K mg base 1 "crossed" s_crossed ["one", "other"] F_crossed) (D_dot : Dv P w K mg base 1 "dot" s_dot ["numbers", "others"] F_dot) {f : Addr} {fd : FuncData} (F : Fun K "determinant" "determinant" s_determinant f fd) : FnV P w K mg base 2 f fd ["rows"] (spV K mg 1 F_determinant) :=
  fnV_of F sc_determinant fun cdv A outer s H E gd room =>
    (vss_one (vs_ret (ve_callC D_dot gd room [false, false] (va_cons (ve_ix (ve_vF 0) ve_int) (va_cons (ve_callC D_crossed gd room [false, false] (va_cons (ve_ix (ve_vF 0) ve_int) (va_cons (ve_ix (ve_vF 0) ve_int) va_nil))) va_nil)))))
abbrev s_is_three_by_three : Stmt := top 25
def m_is_three_by_three : M Flow :=
  (sSeq (sIf (mOrT (mNotT (mT (mCall 1 [false] F_is_list (mCons (mPlF 0) mNil)))) (mOrT (mB (mOp opNe (mC bLen (mCons (mPlF 0) mNil)) (mVal (.int 3)))) (mNotT (mT (mC bAll (mCons (mLC (mIt (mPlF 0)) (gNF 1) tt1 (mCall 1 [false] F_is_three (mCons (mPlF 1) mNil)) [1]) mNil)))))) (sRet (mVal (.bl false))) sNx)
    (sRet (mOp opNe (mCall 1 [false] F_determinant (mCons (mPlF 0) mNil)) (mVal (.int 0)))))
abbrev F_is_three_by_three : Fn := fnBody 2 m_is_three_by_three
theorem sc_is_three_by_three : FnScope ["value", "row"] ["value"] (defScope s_is_three_by_three) := ⟨rfl, rfl, rfl, by decide +kernel, rfl, by decide +kernel, by decide +kernel⟩
theorem ok_is_three_by_three (B : Bt mg) (D_determinant : Dv P w K mg base 2 "determinant" s_determinant ["rows"] F_determinant) (D_is_list : Dv P w K mg base 1 "is_list" s_is_list ["value"] F_is_list) (D_is_three : Dv P w K mg base 2 "is_three" s_is_three ["value"] F_is_three) {f : Addr} {fd : FuncData} (F : Fun K "is_three_by_three" "is_three_by_three" s_is_three_by_three f fd) : FnV P w K mg base 3 f fd ["value"] (spV K mg 1 F_is_three_by_three) :=
  fnV_of F sc_is_three_by_three fun cdv A outer s H E gd room =>
    (vss_cons (vs_if (VW.t (vw_or (vt_not (vt_tru (ve_callC D_is_list gd (room.mono (by decide : 1 ≤ 2)) [false] (va_cons (ve_vF 0) va_nil)))) (vw_or (vt_cmp (o_ne (hu64 room)) (ve_callB c_len B.len b_len (va_cons (ve_vF 0) va_nil)) ve_int (nomark _)) (vw_or1 (vt_not (vt_tru (ve_callB (c_all rfl) B.all b_all (va_cons (ve_lc (own := [("row", 1)]) rfl sc_is_three_by_three.nd (vi_any (ve_vF 0)) (blkOk_by (N := ["value", "row"]) (sc := defScope s_is_three_by_three) (by decide +kernel)) (by decide) (fun _ _ _ _ _ => (vg_nameF (i := 1) sc_is_three_by_three.nd rfl (Or.inl rfl))) (fun _ _ _ _ _ => vts_nil) (fun _ _ _ _ _ => (ve_callC D_is_three gd room [false] (va_cons (ve_vF 1) va_nil)))) va_nil)))))))) (vss_one (vs_ret ve_bl)) vss_nil)
    (vss_one (vs_ret (ve_cmp (o_ne (hu64 room)) (ve_callC D_determinant gd room [false] (va_cons (ve_vF 0) va_nil)) ve_int (nomark _)))))
abbrev s_check_table : Stmt := top 32
def m_check_table : M Flow :=
  (sIf (mNotT (mT (mCall 1 [false] F_is_three_by_three (mCons (mPlF 0) mNil)))) (fun _ => .bad) sNx)
abbrev F_check_table : Fn := fnBody 1 m_check_table
theorem sc_check_table : FnScope ["table"] ["table"] (defScope s_check_table) := ⟨rfl, rfl, rfl, by decide +kernel, rfl, by decide +kernel, by decide +kernel⟩
theorem ok_check_table (B : Bt mg) (D_is_three_by_three : Dv P w K mg base 3 "is_three_by_three" s_is_three_by_three ["value"] F_is_three_by_three) {f : Addr} {fd : FuncData} (F : Fun K "check_table" "check_table" s_check_table f fd) : FnV P w K mg base 4 f fd ["table"] (spV K mg 1 F_check_table) :=
  fnV_of F sc_check_table fun cdv A outer s H E gd room =>
    (vss_one (vs_if (vt_not (vt_tru (ve_callC D_is_three_by_three gd room [false] (va_cons (ve_vF 0) va_nil)))) (vss_one vs_bad) vss_nil))
abbrev s_led : Stmt := top 72
def m_led : M Flow :=
  (sSeq (sExp (mCall 1 [false] F_check_table (mCons (mPlF 0) mNil)))
    (sSeq (sAsg (mCall 1 [false] F_told_point (mCons (mPlF 1) mNil)) (gNF 2))
    (sRet (mCall 1 [false] F_told_point (mCons (mLC (mIt (mPlF 0)) (gNF 3) tt1 (mCall 2 [false, false] F_dot (mCons (mPlF 3) (mCons (mPlF 2) mNil))) [3]) mNil)))))
abbrev F_led : Fn := fnBody 4 m_led
theorem sc_led : FnScope ["table", "point", "told", "row"] ["table", "point"] (defScope s_led) := ⟨rfl, rfl, rfl, by decide +kernel, rfl, by decide +kernel, by decide +kernel⟩
theorem ok_led (B : Bt mg) (D_check_table : Dv P w K mg base 4 "check_table" s_check_table ["table"] F_check_table) (D_dot : Dv P w K mg base 1 "dot" s_dot ["numbers", "others"] F_dot) (D_told_point : Dv P w K mg base 4 "told_point" s_told_point ["point"] F_told_point) {f : Addr} {fd : FuncData} (F : Fun K "led" "led" s_led f fd) : FnV P w K mg base 5 f fd ["table", "point"] (spV K mg 2 F_led) :=
  fnV_of F sc_led fun cdv A outer s H E gd room =>
    (vss_cons (vs_expr (ve_callC D_check_table gd room [false] (va_cons (ve_vF 0) va_nil)))
    (vss_cons (vs_setF (i := 2) sc_led.nd rfl (by first | exact Or.inr rfl | exact Or.inl rfl) (ve_callC D_told_point gd room [false] (va_cons (ve_vF 1) va_nil)))
    (vss_one (vs_ret (ve_callC D_told_point gd room [false] (va_cons (ve_lc (own := [("row", 3)]) rfl sc_led.nd (vi_any (ve_vF 0)) (blkOk_by (N := ["table", "point", "told", "row"]) (sc := defScope s_led) (by decide +kernel)) (by decide) (fun _ _ _ _ _ => (vg_nameF (i := 3) sc_led.nd rfl (Or.inl rfl))) (fun _ _ _ _ _ => vts_nil) (fun _ _ _ _ _ => (ve_callC D_dot gd (room.mono (by decide : 1 ≤ 4)) [false, false] (va_cons (ve_vF 3) (va_cons (ve_vF 2) va_nil))))) va_nil))))))
abbrev s_Spots_points : Stmt := inClass (top 37) 4
def m_Spots_points : M Flow :=
  (sRet (mC bList (mCons (mFld "Spots" "_points" (mPlF 0)) mNil)))
abbrev F_Spots_points : Fn := fnBody 1 m_Spots_points
theorem sc_Spots_points : FnScope ["self"] ["self"] (defScope s_Spots_points) := ⟨rfl, rfl, rfl, by decide +kernel, rfl, by decide +kernel, by decide +kernel⟩
theorem ok_Spots_points (B : Bt mg) (T_Spots : CV K mg "Spots" ["_points"]) {f : Addr} {fd : FuncData} (F : Fun K "points" "Spots.points" s_Spots_points f fd) : FnV P w K mg base 1 f fd ["self"] (spV K mg 1 F_Spots_points) :=
  fnV_of F sc_Spots_points fun cdv A outer s H E gd room =>
    (vss_one (vs_ret (ve_callTy (c_list rfl) B.list b_list (va_cons (ve_fld T_Spots (ve_vF 0)) va_nil))))
abbrev s_moved : Stmt := top 73
def m_moved : M Flow :=
  (sSeq (sExp (mCall 1 [false] F_check_spots (mCons (mPlF 0) mNil)))
    (sSeq (sExp (mCall 1 [false] F_check_table (mCons (mPlF 1) mNil)))
    (sRet (mNew "Spots" 2 F_Spots_init (mCons (mLC (mIt (mMeth "Spots" "points" 1 F_Spots_points (mPlF 0) mNil)) (gNF 2) tt1 (mCall 2 [false, false] F_led (mCons (mPlF 1) (mCons (mPlF 2) mNil))) [2]) mNil)))))
abbrev F_moved : Fn := fnBody 3 m_moved
theorem sc_moved : FnScope ["spots", "table", "point"] ["spots", "table"] (defScope s_moved) := ⟨rfl, rfl, rfl, by decide +kernel, rfl, by decide +kernel, by decide +kernel⟩
theorem ok_moved (B : Bt mg) (D_check_spots : Dv P w K mg base 1 "check_spots" s_check_spots ["spots"] F_check_spots) (D_check_table : Dv P w K mg base 4 "check_table" s_check_table ["table"] F_check_table) (D_led : Dv P w K mg base 5 "led" s_led ["table", "point"] F_led) (M_Spots_points : Mv P w K mg base 1 "Spots" "points" ["self"] F_Spots_points) (I_Spots : Iv P w K mg base 5 "Spots" ["self", "points"] F_Spots_init) {f : Addr} {fd : FuncData} (F : Fun K "moved" "moved" s_moved f fd) : FnV P w K mg base 7 f fd ["spots", "table"] (spV K mg 2 F_moved) :=
  fnV_of F sc_moved fun cdv A outer s H E gd room =>
    (vss_cons (vs_expr (ve_callC D_check_spots gd (room.mono (by decide : 1 ≤ 6)) [false] (va_cons (ve_vF 0) va_nil)))
    (vss_cons (vs_expr (ve_callC D_check_table gd (room.mono (by decide : 4 ≤ 6)) [false] (va_cons (ve_vF 1) va_nil)))
    (vss_one (vs_ret (ve_new I_Spots gd room (va_cons (ve_lc (own := [("point", 2)]) rfl sc_moved.nd (vi_any (ve_meth0 M_Spots_points gd (room.mono (by decide : 1 ≤ 6)) (ve_vF 0))) (blkOk_by (N := ["spots", "table", "point"]) (sc := defScope s_moved) (by decide +kernel)) (by decide) (fun _ _ _ _ _ => (vg_nameF (i := 2) sc_moved.nd rfl (Or.inl rfl))) (fun _ _ _ _ _ => vts_nil) (fun _ _ _ _ _ => (ve_callC D_led gd (room.mono (by decide : 5 ≤ 6)) [false, false] (va_cons (ve_vF 1) (va_cons (ve_vF 2) va_nil))))) va_nil))))))
abbrev s_check_degree : Stmt := top 30
def m_check_degree : M Flow :=
  (sIf (mOrT (mNotT (mT (mCall 1 [false] F_is_count (mCons (mPlF 0) mNil)))) (mB (mOp opGt (mPlF 0) (mPlF 1)))) (fun _ => .bad) sNx)
abbrev F_check_degree : Fn := fnBody 2 m_check_degree
theorem sc_check_degree : FnScope ["degree", "most"] ["degree", "most"] (defScope s_check_degree) := ⟨rfl, rfl, rfl, by decide +kernel, rfl, by decide +kernel, by decide +kernel⟩
theorem ok_check_degree (B : Bt mg) (D_is_count : Dv P w K mg base 2 "is_count" s_is_count ["value"] F_is_count) {f : Addr} {fd : FuncData} (F : Fun K "check_degree" "check_degree" s_check_degree f fd) : FnV P w K mg base 3 f fd ["degree", "most"] (spV K mg 2 F_check_degree) :=
  fnV_of F sc_check_degree fun cdv A outer s H E gd room =>
    (vss_one (vs_if (VW.t (vw_or (vt_not (vt_tru (ve_callC D_is_count gd room [false] (va_cons (ve_vF 0) va_nil)))) (vw_or1 (vt_cmp o_gt (ve_vF 0) (ve_vF 1) (nomark _))))) (vss_one vs_bad) vss_nil))
abbrev s_check_spots_degree : Stmt := top 60
def m_check_spots_degree : M Flow :=
  (sSeq (sExp (mCall 1 [false] F_check_spots (mCons (mPlF 0) mNil)))
    (sExp (mCall 2 [false, false] F_check_degree (mCons (mPlF 1) (mCons (mVal (.int 9)) mNil)))))
abbrev F_check_spots_degree : Fn := fnBody 2 m_check_spots_degree
theorem sc_check_spots_degree : FnScope ["spots", "degree"] ["spots", "degree"] (defScope s_check_spots_degree) := ⟨rfl, rfl, rfl, by decide +kernel, rfl, by decide +kernel, by decide +kernel⟩
theorem ok_check_spots_degree (B : Bt mg) {t_MOST_CONDITIONS_DEGREE : Tok} (m_MOST_CONDITIONS_DEGREE : mg "MOST_CONDITIONS_DEGREE" = some (.int 9 t_MOST_CONDITIONS_DEGREE)) (D_check_degree : Dv P w K mg base 3 "check_degree" s_check_degree ["degree", "most"] F_check_degree) (D_check_spots : Dv P w K mg base 1 "check_spots" s_check_spots ["spots"] F_check_spots) {f : Addr} {fd : FuncData} (F : Fun K "check_spots_degree" "check_spots_degree" s_check_spots_degree f fd) : FnV P w K mg base 4 f fd ["spots", "degree"] (spV K mg 2 F_check_spots_degree) :=
  fnV_of F sc_check_spots_degree fun cdv A outer s H E gd room =>
    (vss_cons (vs_expr (ve_callC D_check_spots gd (room.mono (by decide : 1 ≤ 3)) [false] (va_cons (ve_vF 0) va_nil)))
    (vss_one (vs_expr (ve_callC D_check_degree gd room [false, false] (va_cons (ve_vF 1) (va_cons (ve_globI m_MOST_CONDITIONS_DEGREE) va_nil))))))
abbrev s_first_place : Stmt := top 53
def m_first_place : M Flow :=
  (sSeq (sFor (mEnum (mCons (mPlF 0) mNil)) (gT 2 (gCons (gNF 2) (gCons (gNF 3) gNil))) (sIf (mB (mOp opNe (mIf (mB (mOp opEq (mPlF 1) (mVal (.int 0)))) (mOp opIx (mPlF 3) (mVal (.int 0))) (mOp opMod (mOp opIx (mPlF 3) (mVal (.int 0))) (mPlF 1))) (mVal (.int 0)))) (sRet (mPlF 2)) sNx))
    (sRet (mVal .non)))
abbrev F_first_place : Fn := fnBody 4 m_first_place
theorem sc_first_place : FnScope ["rows", "prime", "place", "row"] ["rows", "prime"] (defScope s_first_place) := ⟨rfl, rfl, rfl, by decide +kernel, rfl, by decide +kernel, by decide +kernel⟩
theorem ok_first_place (B : Bt mg) {f : Addr} {fd : FuncData} (F : Fun K "first_place" "first_place" s_first_place f fd) : FnV P w K mg base 1 f fd ["rows", "prime"] (spV K mg 2 F_first_place) :=
  fnV_of F sc_first_place fun cdv A outer s H E gd room =>
    (vss_cons (vs_for (fun _ _ => passes_of rfl) rfl (vi_enum B.enumerate (va_cons (ve_vF 0) va_nil)) (vg_tup rfl (vgs_cons (vg_nameF (i := 2) sc_first_place.nd rfl (Or.inl rfl)) (vgs_cons (vg_nameF (i := 3) sc_first_place.nd rfl (Or.inl rfl)) vgs_nil))) (fun _ => (calm_gT (calm_gCons (fun _ => calm_gNF) (calm_gCons (fun _ => calm_gNF) (fun _ => calm_gNil))))) (vss_one (vs_if (vt_cmp (o_ne (hu64 room)) (ve_if (vt_cmp (o_eq (hu64 room)) (ve_vF 1) ve_int (nomark _)) (ve_ix (ve_vF 3) ve_int) (ve_op o_mod (ve_ix (ve_vF 3) ve_int) (ve_vF 1))) ve_int (nomark _)) (vss_one (vs_ret (ve_vF 2))) vss_nil)))
    (vss_one (vs_ret ve_non)))
abbrev s_cleared : Stmt := top 54
def m_cleared : M Flow :=
  (sSeq (sAsg (mLC (mZip (mCons (mSl (mPlF 0) (mSome (mVal (.int 1))) mNo) (mCons (mSl (mPlF 1) (mSome (mVal (.int 1))) mNo) mNil))) (gT 2 (gCons (gNF 5) (gCons (gNF 6) gNil))) tt1 (mOp opSub (mOp opMul (mPlF 5) (mOp opIx (mPlF 1) (mVal (.int 0)))) (mOp opMul (mPlF 6) (mOp opIx (mPlF 0) (mVal (.int 0))))) [5, 6]) (gNF 4))
    (sSeq (sIf (mB (mOp opEq (mPlF 3) (mVal (.int 0)))) (sRet (mLC (mIt (mPlF 4)) (gNF 5) tt1 (mOp opFdiv (mPlF 5) (mPlF 2)) [5])) sNx)
    (sRet (mLC (mIt (mPlF 4)) (gNF 5) tt1 (mOp opMod (mPlF 5) (mPlF 3)) [5]))))
abbrev F_cleared : Fn := fnBody 7 m_cleared
theorem sc_cleared : FnScope ["row", "pivot", "last", "prime", "numbers", "number", "other"] ["row", "pivot", "last", "prime"] (defScope s_cleared) := ⟨rfl, rfl, rfl, by decide +kernel, rfl, by decide +kernel, by decide +kernel⟩
theorem ok_cleared (B : Bt mg) {f : Addr} {fd : FuncData} (F : Fun K "cleared" "cleared" s_cleared f fd) : FnV P w K mg base 1 f fd ["row", "pivot", "last", "prime"] (spV K mg 4 F_cleared) :=
  fnV_of F sc_cleared fun cdv A outer s H E gd room =>
    (vss_cons (vs_setLcF (i := 4) (own := [("number", 5), ("other", 6)]) rfl sc_cleared.nd rfl rfl (sw_true rfl rfl rfl (by decide +kernel)) (vi_zip B.zip (va_cons (ve_slice (ve_vF 0) (vo_some ve_int) vo_none) (va_cons (ve_slice (ve_vF 1) (vo_some ve_int) vo_none) va_nil))) (blkOk_by (N := ["row", "pivot", "last", "prime", "numbers", "number", "other"]) (sc := defScope s_cleared) (by decide +kernel)) (by decide) (fun _ _ _ _ _ => (vg_tup rfl (vgs_cons (vg_nameF (i := 5) sc_cleared.nd rfl (Or.inl rfl)) (vgs_cons (vg_nameF (i := 6) sc_cleared.nd rfl (Or.inl rfl)) vgs_nil)))) (fun _ _ _ _ _ => vts_nil) (fun _ _ _ _ _ => (ve_op o_sub (ve_op o_mul (ve_vF 5) (ve_ix (ve_vF 1) ve_int)) (ve_op o_mul (ve_vF 6) (ve_ix (ve_vF 0) ve_int)))))
    (vss_cons (vs_if (vt_cmp (o_eq (hu64 room)) (ve_vF 3) ve_int (nomark _)) (vss_one (vs_ret (ve_lc (own := [("number", 5)]) rfl sc_cleared.nd (vi_any (ve_vF 4)) (blkOk_by (N := ["row", "pivot", "last", "prime", "numbers", "number", "other"]) (sc := defScope s_cleared) (by decide +kernel)) (by decide) (fun _ _ _ _ _ => (vg_nameF (i := 5) sc_cleared.nd rfl (Or.inl rfl))) (fun _ _ _ _ _ => vts_nil) (fun _ _ _ _ _ => (ve_op o_fdiv (ve_vF 5) (ve_vF 2)))))) vss_nil)
    (vss_one (vs_ret (ve_lc (own := [("number", 5)]) rfl sc_cleared.nd (vi_any (ve_vF 4)) (blkOk_by (N := ["row", "pivot", "last", "prime", "numbers", "number", "other"]) (sc := defScope s_cleared) (by decide +kernel)) (by decide) (fun _ _ _ _ _ => (vg_nameF (i := 5) sc_cleared.nd rfl (Or.inl rfl))) (fun _ _ _ _ _ => vts_nil) (fun _ _ _ _ _ => (ve_op o_mod (ve_vF 5) (ve_vF 3))))))))
abbrev s_columns_by : Stmt := top 52
def m_columns_by : M Flow :=
  (sSeq (sParO [2, 3, 4] (mConsO (mLC (mIt (mPlF 0)) (gNF 5) tt1 (mC bList (mCons (mPlF 5) mNil)) [5]) (mConsO (mVal (.int 1)) (mConsO (mLst mNil) mNil))))
    (sSeq (sFor (mRng1 (mCons (mIf (mT (mPlF 0)) (mC bLen (mCons (mOp opIx (mPlF 0) (mVal (.int 0))) mNil)) (mVal (.int 0))) mNil)) (gNF 6) (sSeq (sAsg (mCall 2 [false, false] F_first_place (mCons (mPlF 2) (mCons (mPlF 1) mNil))) (gNF 7))
      (sIf (mB (mOp opIsN (mPlF 7) (mVal .non))) (sAsg (mLC (mIt (mPlF 2)) (gNF 5) tt1 (mSl (mPlF 5) (mSome (mVal (.int 1))) mNo) [5]) (gNF 2)) (sSeq (sAsg (mOp opIx (mPlF 2) (mPlF 7)) (gNF 8))
        (sSeq (sAsg (mLC (mIt (mOp opAdd (mSl (mPlF 2) mNo (mSome (mPlF 7))) (mSl (mPlF 2) (mSome (mOp opAdd (mPlF 7) (mVal (.int 1)))) mNo))) (gNF 5) tt1 (mCall 4 [false, false, false, false] F_cleared (mCons (mPlF 5) (mCons (mPlF 8) (mCons (mPlF 3) (mCons (mPlF 1) mNil))))) [5]) (gNF 2))
        (sSeq (sAsg (mOp opIx (mPlF 8) (mVal (.int 0))) (gNF 3))
        (sExp (mMut opAppend 4 (mCons (mPlF 6) mNil)))))))))
    (sRet (mPlF 4))))
abbrev F_columns_by : Fn := fnBody 9 m_columns_by
theorem sc_columns_by : FnScope ["rows", "prime", "left", "last", "places", "row", "place", "first", "pivot"] ["rows", "prime"] (defScope s_columns_by) := ⟨rfl, rfl, rfl, by decide +kernel, rfl, by decide +kernel, by decide +kernel⟩
theorem ok_columns_by (B : Bt mg) (D_cleared : Dv P w K mg base 1 "cleared" s_cleared ["row", "pivot", "last", "prime"] F_cleared) (D_first_place : Dv P w K mg base 1 "first_place" s_first_place ["rows", "prime"] F_first_place) {f : Addr} {fd : FuncData} (F : Fun K "columns_by" "columns_by" s_columns_by f fd) : FnV P w K mg base 2 f fd ["rows", "prime"] (spV K mg 2 F_columns_by) :=
  fnV_of F sc_columns_by fun cdv A outer s H E gd room =>
    (vss_cons (vs_tupO rfl (vo_cons (ve_lc (own := [("row", 5)]) rfl sc_columns_by.nd (vi_any (ve_vF 0)) (blkOk_by (N := ["rows", "prime", "left", "last", "places", "row", "place", "first", "pivot"]) (sc := defScope s_columns_by) (by decide +kernel)) (by decide) (fun _ _ _ _ _ => (vg_nameF (i := 5) sc_columns_by.nd rfl (Or.inl rfl))) (fun _ _ _ _ _ => vts_nil) (fun _ _ _ _ _ => (ve_callTy (c_list rfl) B.list b_list (va_cons (ve_vF 5) va_nil)))) (vo_cons ve_int (vo_cons (ve_lst va_nil) vo_nil))) (ng_cons (i := 2) sc_columns_by.nd rfl (Or.inl rfl) (ng_cons (i := 3) sc_columns_by.nd rfl (by first | exact Or.inr rfl | exact Or.inl rfl) (ng_cons (i := 4) sc_columns_by.nd rfl (Or.inl rfl) ng_nil))))
    (vss_cons (vs_for (fun _ _ => passes_of rfl) rfl (vi_range1 B.range (va_cons (ve_if (vt_tru (ve_vF 0)) (ve_callB c_len B.len b_len (va_cons (ve_ix (ve_vF 0) ve_int) va_nil)) ve_int) va_nil)) (vg_nameF (i := 6) sc_columns_by.nd rfl (Or.inl rfl)) (fun _ => calm_gNF) (vss_cons (vs_setF (i := 7) sc_columns_by.nd rfl (Or.inl rfl) (ve_callC D_first_place gd room [false, false] (va_cons (ve_vF 2) (va_cons (ve_vF 1) va_nil))))
      (vss_one (vs_if (vt_cmp o_isN (ve_vF 7) ve_non (nomark _)) (vss_one (vs_setLcF (i := 2) (own := [("row", 5)]) rfl sc_columns_by.nd rfl rfl (sw_true rfl rfl rfl (by decide +kernel)) (vi_any (ve_vF 2)) (blkOk_by (N := ["rows", "prime", "left", "last", "places", "row", "place", "first", "pivot"]) (sc := defScope s_columns_by) (by decide +kernel)) (by decide) (fun _ _ _ _ _ => (vg_nameF (i := 5) sc_columns_by.nd rfl (Or.inl rfl))) (fun _ _ _ _ _ => vts_nil) (fun _ _ _ _ _ => (ve_slice (ve_vF 5) (vo_some ve_int) vo_none)))) (vss_cons (vs_setF (i := 8) sc_columns_by.nd rfl (by first | exact Or.inr rfl | exact Or.inl rfl) (ve_ix (ve_vF 2) (ve_vF 7)))
        (vss_cons (vs_setLcF (i := 2) (own := [("row", 5)]) rfl sc_columns_by.nd rfl rfl (sw_true rfl rfl rfl (by decide +kernel)) (vi_any (ve_op o_add (ve_slice (ve_vF 2) vo_none (vo_some (ve_vF 7))) (ve_slice (ve_vF 2) (vo_some (ve_op o_add (ve_vF 7) ve_int)) vo_none))) (blkOk_by (N := ["rows", "prime", "left", "last", "places", "row", "place", "first", "pivot"]) (sc := defScope s_columns_by) (by decide +kernel)) (by decide) (fun _ _ _ _ _ => (vg_nameF (i := 5) sc_columns_by.nd rfl (Or.inl rfl))) (fun _ _ _ _ _ => vts_nil) (fun _ _ _ _ _ => (ve_callC D_cleared gd room [false, false, false, false] (va_cons (ve_vF 5) (va_cons (ve_vF 8) (va_cons (ve_vF 3) (va_cons (ve_vF 1) va_nil)))))))
        (vss_cons (vs_setF (i := 3) sc_columns_by.nd rfl (by first | exact Or.inr rfl | exact Or.inl rfl) (ve_ix (ve_vF 8) ve_int))
        (vss_one (vs_expr (ve_mut PySem.F.plainAttrs_list PySem.F.slot_list_append PySem.F.type_list_append m_append (pv 4) (va_cons (ve_vF 6) va_nil)))))))))))
    (vss_one (vs_ret (ve_vF 4)))))
abbrev s_independent_columns : Stmt := top 51
def m_independent_columns : M Flow :=
  (sSeq (sAsg (mIf (mT (mPlF 0)) (mC bMin (mCons (mC bLen (mCons (mPlF 0) mNil)) (mCons (mC bLen (mCons (mOp opIx (mPlF 0) (mVal (.int 0))) mNil)) mNil))) (mVal (.int 0))) (gNF 1))
    (sSeq (sAsg (mCall 2 [false, false] F_columns_by (mCons (mPlF 0) (mCons (mVal (.int 2305843009213693951)) mNil))) (gNF 2))
    (sRet (mIf (mB (mOp opEq (mC bLen (mCons (mPlF 2) mNil)) (mPlF 1))) (mPlF 2) (mCall 2 [false, false] F_columns_by (mCons (mPlF 0) (mCons (mVal (.int 0)) mNil)))))))
abbrev F_independent_columns : Fn := fnBody 3 m_independent_columns
theorem sc_independent_columns : FnScope ["rows", "most", "places"] ["rows"] (defScope s_independent_columns) := ⟨rfl, rfl, rfl, by decide +kernel, rfl, by decide +kernel, by decide +kernel⟩
theorem ok_independent_columns (B : Bt mg) {t_PRIME : Tok} (m_PRIME : mg "PRIME" = some (.int 2305843009213693951 t_PRIME)) (D_columns_by : Dv P w K mg base 2 "columns_by" s_columns_by ["rows", "prime"] F_columns_by) {f : Addr} {fd : FuncData} (F : Fun K "independent_columns" "independent_columns" s_independent_columns f fd) : FnV P w K mg base 3 f fd ["rows"] (spV K mg 1 F_independent_columns) :=
  fnV_of F sc_independent_columns fun cdv A outer s H E gd room =>
    (vss_cons (vs_setF (i := 1) sc_independent_columns.nd rfl (Or.inl rfl) (ve_if (vt_tru (ve_vF 0)) (ve_callB (c_min rfl) B.min b_min (va_cons (ve_callB c_len B.len b_len (va_cons (ve_vF 0) va_nil)) (va_cons (ve_callB c_len B.len b_len (va_cons (ve_ix (ve_vF 0) ve_int) va_nil)) va_nil))) ve_int))
    (vss_cons (vs_setF (i := 2) sc_independent_columns.nd rfl (Or.inl rfl) (ve_callC D_columns_by gd room [false, false] (va_cons (ve_vF 0) (va_cons (ve_globI m_PRIME) va_nil))))
    (vss_one (vs_ret (ve_if (vt_cmp (o_eq (hu64 room)) (ve_callB c_len B.len b_len (va_cons (ve_vF 2) va_nil)) (ve_vF 1) (nomark _)) (ve_vF 2) (ve_callC D_columns_by gd room [false, false] (va_cons (ve_vF 0) (va_cons ve_int va_nil))))))))
abbrev s_rank : Stmt := top 50
def m_rank : M Flow :=
  (sRet (mC bLen (mCons (mCall 1 [false] F_independent_columns (mCons (mPlF 0) mNil)) mNil)))
abbrev F_rank : Fn := fnBody 1 m_rank
theorem sc_rank : FnScope ["rows"] ["rows"] (defScope s_rank) := ⟨rfl, rfl, rfl, by decide +kernel, rfl, by decide +kernel, by decide +kernel⟩
theorem ok_rank (B : Bt mg) (D_independent_columns : Dv P w K mg base 3 "independent_columns" s_independent_columns ["rows"] F_independent_columns) {f : Addr} {fd : FuncData} (F : Fun K "rank" "rank" s_rank f fd) : FnV P w K mg base 4 f fd ["rows"] (spV K mg 1 F_rank) :=
  fnV_of F sc_rank fun cdv A outer s H E gd room =>
    (vss_one (vs_ret (ve_callB c_len B.len b_len (va_cons (ve_callC D_independent_columns gd room [false] (va_cons (ve_vF 0) va_nil)) va_nil))))
abbrev s_powers : Stmt := top 22
def m_powers : M Flow :=
  (sSeq (sAsg (mLst (mCons (mVal (.int 1)) mNil)) (gNF 2))
    (sSeq (sFor (mRng1 (mCons (mPlF 1) mNil)) (gNF 3) (sExp (mMut opAppend 2 (mCons (mOp opMul (mOp opIx (mPlF 2) (mUn opNeg (mVal (.int 1)))) (mPlF 0)) mNil))))
    (sRet (mPlF 2))))
abbrev F_powers : Fn := fnBody 4 m_powers
theorem sc_powers : FnScope ["number", "most", "found", "_"] ["number", "most"] (defScope s_powers) := ⟨rfl, rfl, rfl, by decide +kernel, rfl, by decide +kernel, by decide +kernel⟩
theorem ok_powers (B : Bt mg) {f : Addr} {fd : FuncData} (F : Fun K "powers" "powers" s_powers f fd) : FnV P w K mg base 1 f fd ["number", "most"] (spV K mg 2 F_powers) :=
  fnV_of F sc_powers fun cdv A outer s H E gd room =>
    (vss_cons (vs_setF (i := 2) sc_powers.nd rfl (Or.inl rfl) (ve_lst (va_cons ve_int va_nil)))
    (vss_cons (vs_for (fun _ _ => passes_of rfl) rfl (vi_range1 B.range (va_cons (ve_vF 1) va_nil)) (vg_nameF (i := 3) sc_powers.nd rfl (Or.inl rfl)) (fun _ => calm_gNF) (vss_one (vs_expr (ve_mut PySem.F.plainAttrs_list PySem.F.slot_list_append PySem.F.type_list_append m_append (pv 2) (va_cons (ve_op o_mul (ve_ix (ve_vF 2) (ve_un o_neg ve_int)) (ve_vF 0)) va_nil)))))
    (vss_one (vs_ret (ve_vF 2)))))
abbrev s_worths_of : Stmt := top 57
def m_worths_of : M Flow :=
  (sSeq (sAsg (mLC (mIt (mPlF 2)) (gNF 6) tt1 (mCall 2 [false, false] F_powers (mCons (mPlF 6) (mCons (mPlF 1) mNil))) [6]) (gT 3 (gCons (gNF 3) (gCons (gNF 4) (gCons (gNF 5) gNil)))))
    (sRet (mLC (mIt (mPlF 0)) (gT 3 (gCons (gNF 7) (gCons (gNF 8) (gCons (gNF 9) gNil)))) tt1 (mOp opMul (mOp opMul (mOp opIx (mPlF 3) (mPlF 7)) (mOp opIx (mPlF 4) (mPlF 8))) (mOp opIx (mPlF 5) (mPlF 9))) [7, 8, 9])))
abbrev F_worths_of : Fn := fnBody 10 m_worths_of
theorem sc_worths_of : FnScope ["triples", "degree", "numbers", "of_x", "of_y", "of_z", "number", "i", "j", "k"] ["triples", "degree", "numbers"] (defScope s_worths_of) := ⟨rfl, rfl, rfl, by decide +kernel, rfl, by decide +kernel, by decide +kernel⟩
theorem ok_worths_of (B : Bt mg) (D_powers : Dv P w K mg base 1 "powers" s_powers ["number", "most"] F_powers) {f : Addr} {fd : FuncData} (F : Fun K "worths_of" "worths_of" s_worths_of f fd) : FnV P w K mg base 2 f fd ["triples", "degree", "numbers"] (spV K mg 3 F_worths_of) :=
  fnV_of F sc_worths_of fun cdv A outer s H E gd room =>
    (vss_cons (vs_asg (ve_lc (own := [("number", 6)]) rfl sc_worths_of.nd (vi_any (ve_vF 2)) (blkOk_by (N := ["triples", "degree", "numbers", "of_x", "of_y", "of_z", "number", "i", "j", "k"]) (sc := defScope s_worths_of) (by decide +kernel)) (by decide) (fun _ _ _ _ _ => (vg_nameF (i := 6) sc_worths_of.nd rfl (Or.inl rfl))) (fun _ _ _ _ _ => vts_nil) (fun _ _ _ _ _ => (ve_callC D_powers gd room [false, false] (va_cons (ve_vF 6) (va_cons (ve_vF 1) va_nil))))) (vg_tup rfl (vgs_cons (vg_nameF (i := 3) sc_worths_of.nd rfl (by first | exact Or.inr rfl | exact Or.inl rfl)) (vgs_cons (vg_nameF (i := 4) sc_worths_of.nd rfl (by first | exact Or.inr rfl | exact Or.inl rfl)) (vgs_cons (vg_nameF (i := 5) sc_worths_of.nd rfl (by first | exact Or.inr rfl | exact Or.inl rfl)) vgs_nil)))) (fun _ => (calm_gT (calm_gCons (fun _ => calm_gNF) (calm_gCons (fun _ => calm_gNF) (calm_gCons (fun _ => calm_gNF) (fun _ => calm_gNil)))))))
    (vss_one (vs_ret (ve_lc (own := [("i", 7), ("j", 8), ("k", 9)]) rfl sc_worths_of.nd (vi_any (ve_vF 0)) (blkOk_by (N := ["triples", "degree", "numbers", "of_x", "of_y", "of_z", "number", "i", "j", "k"]) (sc := defScope s_worths_of) (by decide +kernel)) (by decide) (fun _ _ _ _ _ => (vg_tup rfl (vgs_cons (vg_nameF (i := 7) sc_worths_of.nd rfl (Or.inl rfl)) (vgs_cons (vg_nameF (i := 8) sc_worths_of.nd rfl (Or.inl rfl)) (vgs_cons (vg_nameF (i := 9) sc_worths_of.nd rfl (Or.inl rfl)) vgs_nil))))) (fun _ _ _ _ _ => vts_nil) (fun _ _ _ _ _ => (ve_op o_mul (ve_op o_mul (ve_ix (ve_vF 3) (ve_vF 7)) (ve_ix (ve_vF 4) (ve_vF 8))) (ve_ix (ve_vF 5) (ve_vF 9))))))))
abbrev s_triples_of : Stmt := top 56
def m_triples_of : M Flow :=
  (sRet (mLC2 (mRng3 (mCons (mPlF 0) (mCons (mUn opNeg (mVal (.int 1))) (mCons (mUn opNeg (mVal (.int 1))) mNil)))) (gNF 1) tt1 (mRng3 (mCons (mOp opSub (mPlF 0) (mPlF 1)) (mCons (mUn opNeg (mVal (.int 1))) (mCons (mUn opNeg (mVal (.int 1))) mNil)))) (gNF 2) tt1 (mTup (mCons (mPlF 1) (mCons (mPlF 2) (mCons (mOp opSub (mOp opSub (mPlF 0) (mPlF 1)) (mPlF 2)) mNil)))) [1, 2] [2]))
abbrev F_triples_of : Fn := fnBody 3 m_triples_of
theorem sc_triples_of : FnScope ["degree", "i", "j"] ["degree"] (defScope s_triples_of) := ⟨rfl, rfl, rfl, by decide +kernel, rfl, by decide +kernel, by decide +kernel⟩
theorem ok_triples_of (B : Bt mg) {f : Addr} {fd : FuncData} (F : Fun K "triples_of" "triples_of" s_triples_of f fd) : FnV P w K mg base 1 f fd ["degree"] (spV K mg 1 F_triples_of) :=
  fnV_of F sc_triples_of fun cdv A outer s H E gd room =>
    (vss_one (vs_ret (ve_lc2 (own := [("i", 1), ("j", 2)]) (vs1 := [2]) rfl sc_triples_of.nd (vi_range3 B.range (va_cons (ve_vF 0) (va_cons (ve_un o_neg ve_int) (va_cons (ve_un o_neg ve_int) va_nil)))) (blkOk_by (N := ["degree", "i", "j"]) (sc := defScope s_triples_of) (by decide +kernel)) (by decide) (by decide) (by decide) (fun _ _ _ _ _ => (vg_nameF (i := 1) sc_triples_of.nd rfl (Or.inl rfl))) (fun _ _ _ _ _ => vts_nil) (fun _ _ _ _ _ => (vi_range3 B.range (va_cons (ve_op o_sub (ve_vF 0) (ve_vF 1)) (va_cons (ve_un o_neg ve_int) (va_cons (ve_un o_neg ve_int) va_nil))))) (fun _ _ _ _ _ => (vg_nameF (i := 2) sc_triples_of.nd rfl (Or.inl rfl))) (fun _ _ _ _ _ => vts_nil) (fun _ _ _ _ _ => (ve_tup (va_cons (ve_vF 1) (va_cons (ve_vF 2) (va_cons (ve_op o_sub (ve_op o_sub (ve_vF 0) (ve_vF 1)) (ve_vF 2)) va_nil))))))))
abbrev s_condition_rows : Stmt := top 61
def m_condition_rows : M Flow :=
  (sRet (mLC (mIt (mMeth "Spots" "points" 1 F_Spots_points (mPlF 0) mNil)) (gNF 2) tt1 (mCall 3 [false, false, false] F_worths_of (mCons (mCall 1 [false] F_triples_of (mCons (mPlF 1) mNil)) (mCons (mPlF 1) (mCons (mPlF 2) mNil)))) [2]))
abbrev F_condition_rows : Fn := fnBody 3 m_condition_rows
theorem sc_condition_rows : FnScope ["spots", "degree", "point"] ["spots", "degree"] (defScope s_condition_rows) := ⟨rfl, rfl, rfl, by decide +kernel, rfl, by decide +kernel, by decide +kernel⟩
theorem ok_condition_rows (B : Bt mg) (D_triples_of : Dv P w K mg base 1 "triples_of" s_triples_of ["degree"] F_triples_of) (D_worths_of : Dv P w K mg base 2 "worths_of" s_worths_of ["triples", "degree", "numbers"] F_worths_of) (M_Spots_points : Mv P w K mg base 1 "Spots" "points" ["self"] F_Spots_points) {f : Addr} {fd : FuncData} (F : Fun K "condition_rows" "condition_rows" s_condition_rows f fd) : FnV P w K mg base 3 f fd ["spots", "degree"] (spV K mg 2 F_condition_rows) :=
  fnV_of F sc_condition_rows fun cdv A outer s H E gd room =>
    (vss_one (vs_ret (ve_lc (own := [("point", 2)]) rfl sc_condition_rows.nd (vi_any (ve_meth0 M_Spots_points gd (room.mono (by decide : 1 ≤ 2)) (ve_vF 0))) (blkOk_by (N := ["spots", "degree", "point"]) (sc := defScope s_condition_rows) (by decide +kernel)) (by decide) (fun _ _ _ _ _ => (vg_nameF (i := 2) sc_condition_rows.nd rfl (Or.inl rfl))) (fun _ _ _ _ _ => vts_nil) (fun _ _ _ _ _ => (ve_callC D_worths_of gd room [false, false, false] (va_cons (ve_callC D_triples_of gd (room.mono (by decide : 1 ≤ 2)) [false] (va_cons (ve_vF 1) va_nil)) (va_cons (ve_vF 1) (va_cons (ve_vF 2) va_nil))))))))
abbrev s_conditions : Stmt := top 62
def m_conditions : M Flow :=
  (sSeq (sExp (mCall 2 [false, false] F_check_spots_degree (mCons (mPlF 0) (mCons (mPlF 1) mNil))))
    (sRet (mCall 1 [false] F_rank (mCons (mCall 2 [false, false] F_condition_rows (mCons (mPlF 0) (mCons (mPlF 1) mNil))) mNil))))
abbrev F_conditions : Fn := fnBody 2 m_conditions
theorem sc_conditions : FnScope ["spots", "degree"] ["spots", "degree"] (defScope s_conditions) := ⟨rfl, rfl, rfl, by decide +kernel, rfl, by decide +kernel, by decide +kernel⟩
theorem ok_conditions (B : Bt mg) (D_check_spots_degree : Dv P w K mg base 4 "check_spots_degree" s_check_spots_degree ["spots", "degree"] F_check_spots_degree) (D_condition_rows : Dv P w K mg base 3 "condition_rows" s_condition_rows ["spots", "degree"] F_condition_rows) (D_rank : Dv P w K mg base 4 "rank" s_rank ["rows"] F_rank) {f : Addr} {fd : FuncData} (F : Fun K "conditions" "conditions" s_conditions f fd) : FnV P w K mg base 5 f fd ["spots", "degree"] (spV K mg 2 F_conditions) :=
  fnV_of F sc_conditions fun cdv A outer s H E gd room =>
    (vss_cons (vs_expr (ve_callC D_check_spots_degree gd room [false, false] (va_cons (ve_vF 0) (va_cons (ve_vF 1) va_nil))))
    (vss_one (vs_ret (ve_callC D_rank gd room [false] (va_cons (ve_callC D_condition_rows gd (room.mono (by decide : 3 ≤ 4)) [false, false] (va_cons (ve_vF 0) (va_cons (ve_vF 1) va_nil))) va_nil)))))
abbrev s_Spots_size : Stmt := inClass (top 37) 1
def m_Spots_size : M Flow :=
  (sRet (mC bLen (mCons (mFld "Spots" "_points" (mPlF 0)) mNil)))
abbrev F_Spots_size : Fn := fnBody 1 m_Spots_size
theorem sc_Spots_size : FnScope ["self"] ["self"] (defScope s_Spots_size) := ⟨rfl, rfl, rfl, by decide +kernel, rfl, by decide +kernel, by decide +kernel⟩
theorem ok_Spots_size (B : Bt mg) (T_Spots : CV K mg "Spots" ["_points"]) {f : Addr} {fd : FuncData} (F : Fun K "size" "Spots.size" s_Spots_size f fd) : FnV P w K mg base 1 f fd ["self"] (spV K mg 1 F_Spots_size) :=
  fnV_of F sc_Spots_size fun cdv A outer s H E gd room =>
    (vss_one (vs_ret (ve_callB c_len B.len b_len (va_cons (ve_fld T_Spots (ve_vF 0)) va_nil))))
abbrev s_rising_counts : Stmt := top 68
def m_rising_counts : M Flow :=
  (sSeq (sExp (mCall 1 [false] F_check_spots (mCons (mPlF 0) mNil)))
    (sSeq (sAsg (mLst (mCons (mCall 2 [false, false] F_conditions (mCons (mPlF 0) (mCons (mVal (.int 0)) mNil))) mNil)) (gNF 1))
    (sSeq (sWhile (mB (mOp opLt (mOp opIx (mPlF 1) (mUn opNeg (mVal (.int 1)))) (mProp "Spots" "size" F_Spots_size (mPlF 0)))) (sSeq (sIf (mB (mOp opGt (mC bLen (mCons (mPlF 1) mNil)) (mVal (.int 8)))) (fun _ => .bad) sNx)
      (sExp (mMut opAppend 1 (mCons (mCall 2 [false, false] F_conditions (mCons (mPlF 0) (mCons (mC bLen (mCons (mPlF 1) mNil)) mNil))) mNil)))))
    (sRet (mPlF 1)))))
abbrev F_rising_counts : Fn := fnBody 2 m_rising_counts
theorem sc_rising_counts : FnScope ["spots", "counts"] ["spots"] (defScope s_rising_counts) := ⟨rfl, rfl, rfl, by decide +kernel, rfl, by decide +kernel, by decide +kernel⟩
theorem ok_rising_counts (B : Bt mg) {t_MOST_END : Tok} (m_MOST_END : mg "MOST_END" = some (.int 8 t_MOST_END)) (D_check_spots : Dv P w K mg base 1 "check_spots" s_check_spots ["spots"] F_check_spots) (D_conditions : Dv P w K mg base 5 "conditions" s_conditions ["spots", "degree"] F_conditions) (P_Spots_size : Pv P w K mg base 1 "Spots" "size" ["self"] F_Spots_size) {f : Addr} {fd : FuncData} (F : Fun K "rising_counts" "rising_counts" s_rising_counts f fd) : FnV P w K mg base 6 f fd ["spots"] (spV K mg 1 F_rising_counts) :=
  fnV_of F sc_rising_counts fun cdv A outer s H E gd room =>
    (vss_cons (vs_expr (ve_callC D_check_spots gd (room.mono (by decide : 1 ≤ 5)) [false] (va_cons (ve_vF 0) va_nil)))
    (vss_cons (vs_setF (i := 1) sc_rising_counts.nd rfl (Or.inl rfl) (ve_lst (va_cons (ve_callC D_conditions gd room [false, false] (va_cons (ve_vF 0) (va_cons ve_int va_nil))) va_nil)))
    (vss_cons (vs_while (fun _ _ => passes_of rfl) (vt_cmp o_lt (ve_ix (ve_vF 1) (ve_un o_neg ve_int)) (ve_prop P_Spots_size gd (room.mono (by decide : 2 ≤ 5)) (ve_vF 0)) (nomark _)) (vss_cons (vs_if (vt_cmp o_gt (ve_callB c_len B.len b_len (va_cons (ve_vF 1) va_nil)) (ve_globI m_MOST_END) (nomark _)) (vss_one vs_bad) vss_nil)
      (vss_one (vs_expr (ve_mut PySem.F.plainAttrs_list PySem.F.slot_list_append PySem.F.type_list_append m_append (pv 1) (va_cons (ve_callC D_conditions gd room [false, false] (va_cons (ve_vF 0) (va_cons (ve_callB c_len B.len b_len (va_cons (ve_vF 1) va_nil)) va_nil))) va_nil))))))
    (vss_one (vs_ret (ve_vF 1))))))
abbrev s_numbers_of : Stmt := top 66
def m_numbers_of : M Flow :=
  (sSeq (sAsg (mCall 1 [false] F_rising_counts (mCons (mPlF 0) mNil)) (gNF 1))
    (sRet (mLC (mZip (mCons (mPlF 1) (mCons (mOp opAdd (mLst (mCons (mVal (.int 0)) mNil)) (mPlF 1)) mNil))) (gT 2 (gCons (gNF 2) (gCons (gNF 3) gNil))) tt1 (mOp opSub (mPlF 2) (mPlF 3)) [2, 3])))
abbrev F_numbers_of : Fn := fnBody 4 m_numbers_of
theorem sc_numbers_of : FnScope ["spots", "counts", "count", "ahead"] ["spots"] (defScope s_numbers_of) := ⟨rfl, rfl, rfl, by decide +kernel, rfl, by decide +kernel, by decide +kernel⟩
theorem ok_numbers_of (B : Bt mg) (D_rising_counts : Dv P w K mg base 6 "rising_counts" s_rising_counts ["spots"] F_rising_counts) {f : Addr} {fd : FuncData} (F : Fun K "numbers_of" "numbers_of" s_numbers_of f fd) : FnV P w K mg base 7 f fd ["spots"] (spV K mg 1 F_numbers_of) :=
  fnV_of F sc_numbers_of fun cdv A outer s H E gd room =>
    (vss_cons (vs_setF (i := 1) sc_numbers_of.nd rfl (Or.inl rfl) (ve_callC D_rising_counts gd room [false] (va_cons (ve_vF 0) va_nil)))
    (vss_one (vs_ret (ve_lc (own := [("count", 2), ("ahead", 3)]) rfl sc_numbers_of.nd (vi_zip B.zip (va_cons (ve_vF 1) (va_cons (ve_op o_add (ve_lst (va_cons ve_int va_nil)) (ve_vF 1)) va_nil))) (blkOk_by (N := ["spots", "counts", "count", "ahead"]) (sc := defScope s_numbers_of) (by decide +kernel)) (by decide) (fun _ _ _ _ _ => (vg_tup rfl (vgs_cons (vg_nameF (i := 2) sc_numbers_of.nd rfl (Or.inl rfl)) (vgs_cons (vg_nameF (i := 3) sc_numbers_of.nd rfl (Or.inl rfl)) vgs_nil)))) (fun _ _ _ _ _ => vts_nil) (fun _ _ _ _ _ => (ve_op o_sub (ve_vF 2) (ve_vF 3)))))))
abbrev s_row : Stmt := top 65
def m_row : M Flow :=
  (sRet (mCall 1 [false] F_numbers_of (mCons (mPlF 0) mNil)))
abbrev F_row : Fn := fnBody 1 m_row
theorem sc_row : FnScope ["spots"] ["spots"] (defScope s_row) := ⟨rfl, rfl, rfl, by decide +kernel, rfl, by decide +kernel, by decide +kernel⟩
theorem ok_row (B : Bt mg) (D_numbers_of : Dv P w K mg base 7 "numbers_of" s_numbers_of ["spots"] F_numbers_of) {f : Addr} {fd : FuncData} (F : Fun K "row" "row" s_row f fd) : FnV P w K mg base 8 f fd ["spots"] (spV K mg 1 F_row) :=
  fnV_of F sc_row fun cdv A outer s H E gd room =>
    (vss_one (vs_ret (ve_callC D_numbers_of gd room [false] (va_cons (ve_vF 0) va_nil))))
abbrev s_end : Stmt := top 67
def m_end : M Flow :=
  (sRet (mOp opSub (mC bLen (mCons (mCall 1 [false] F_rising_counts (mCons (mPlF 0) mNil)) mNil)) (mVal (.int 1))))
abbrev F_end : Fn := fnBody 1 m_end
theorem sc_end : FnScope ["spots"] ["spots"] (defScope s_end) := ⟨rfl, rfl, rfl, by decide +kernel, rfl, by decide +kernel, by decide +kernel⟩
theorem ok_end (B : Bt mg) (D_rising_counts : Dv P w K mg base 6 "rising_counts" s_rising_counts ["spots"] F_rising_counts) {f : Addr} {fd : FuncData} (F : Fun K "end" "end" s_end f fd) : FnV P w K mg base 7 f fd ["spots"] (spV K mg 1 F_end) :=
  fnV_of F sc_end fun cdv A outer s H E gd room =>
    (vss_one (vs_ret (ve_op o_sub (ve_callB c_len B.len b_len (va_cons (ve_callC D_rising_counts gd room [false] (va_cons (ve_vF 0) va_nil)) va_nil)) ve_int)))
abbrev s_count_through : Stmt := top 70
def m_count_through : M Flow :=
  (sSeq (sAsg (mCall 2 [false, false] F_conditions (mCons (mPlF 0) (mCons (mPlF 1) mNil))) (gNF 2))
    (sRet (mOp opSub (mC bLen (mCons (mCall 1 [false] F_triples_of (mCons (mPlF 1) mNil)) mNil)) (mPlF 2))))
abbrev F_count_through : Fn := fnBody 3 m_count_through
theorem sc_count_through : FnScope ["spots", "degree", "many"] ["spots", "degree"] (defScope s_count_through) := ⟨rfl, rfl, rfl, by decide +kernel, rfl, by decide +kernel, by decide +kernel⟩
theorem ok_count_through (B : Bt mg) (D_conditions : Dv P w K mg base 5 "conditions" s_conditions ["spots", "degree"] F_conditions) (D_triples_of : Dv P w K mg base 1 "triples_of" s_triples_of ["degree"] F_triples_of) {f : Addr} {fd : FuncData} (F : Fun K "count_through" "count_through" s_count_through f fd) : FnV P w K mg base 6 f fd ["spots", "degree"] (spV K mg 2 F_count_through) :=
  fnV_of F sc_count_through fun cdv A outer s H E gd room =>
    (vss_cons (vs_setF (i := 2) sc_count_through.nd rfl (Or.inl rfl) (ve_callC D_conditions gd room [false, false] (va_cons (ve_vF 0) (va_cons (ve_vF 1) va_nil))))
    (vss_one (vs_ret (ve_op o_sub (ve_callB c_len B.len b_len (va_cons (ve_callC D_triples_of gd (room.mono (by decide : 1 ≤ 5)) [false] (va_cons (ve_vF 1) va_nil)) va_nil)) (ve_vF 2)))))
abbrev s_top : Stmt := top 69
def m_top : M Flow :=
  (sSeq (sExp (mCall 1 [false] F_check_spots (mCons (mPlF 0) mNil)))
    (sSeq (sAsg (mVal (.int 0)) (gNF 1))
    (sSeq (sWhile (mB (mOp opEq (mCall 2 [false, false] F_count_through (mCons (mPlF 0) (mCons (mPlF 1) mNil))) (mVal (.int 0)))) (sAugF 1 (· + ·) (mVal (.int 1))))
    (sRet (mPlF 1)))))
abbrev F_top : Fn := fnBody 2 m_top
theorem sc_top : FnScope ["spots", "degree"] ["spots"] (defScope s_top) := ⟨rfl, rfl, rfl, by decide +kernel, rfl, by decide +kernel, by decide +kernel⟩
theorem ok_top (B : Bt mg) (D_check_spots : Dv P w K mg base 1 "check_spots" s_check_spots ["spots"] F_check_spots) (D_count_through : Dv P w K mg base 6 "count_through" s_count_through ["spots", "degree"] F_count_through) {f : Addr} {fd : FuncData} (F : Fun K "top" "top" s_top f fd) : FnV P w K mg base 7 f fd ["spots"] (spV K mg 1 F_top) :=
  fnV_of F sc_top fun cdv A outer s H E gd room =>
    (vss_cons (vs_expr (ve_callC D_check_spots gd (room.mono (by decide : 1 ≤ 6)) [false] (va_cons (ve_vF 0) va_nil)))
    (vss_cons (vs_setF (i := 1) sc_top.nd rfl (Or.inl rfl) ve_int)
    (vss_cons (vs_while (fun _ _ => passes_of rfl) (vt_cmp (o_eq (hu64 room)) (ve_callC D_count_through gd room [false, false] (va_cons (ve_vF 0) (va_cons (ve_vF 1) va_nil))) ve_int (nomark _)) (vss_one (vs_augF (i := 1) ip_add sc_top.nd rfl (Or.inl rfl) ve_int)))
    (vss_one (vs_ret (ve_vF 1))))))
abbrev s__law_top : Stmt := top 81
def m__law_top : M Flow :=
  (sSeq (sFor (mEnum (mCons (mPlF 0) mNil)) (gT 2 (gCons (gNF 1) (gCons (gNF 2) gNil))) (sIf (mB (mOp opNe (mPlF 2) (mOp opAdd (mPlF 1) (mVal (.int 1))))) (sRet (mPlF 1)) sNx))
    (sRet (mC bLen (mCons (mPlF 0) mNil))))
abbrev F__law_top : Fn := fnBody 3 m__law_top
theorem sc__law_top : FnScope ["_law_numbers", "_law_at", "_law_number"] ["_law_numbers"] (defScope s__law_top) := ⟨rfl, rfl, rfl, by decide +kernel, rfl, by decide +kernel, by decide +kernel⟩
theorem ok__law_top (B : Bt mg) {f : Addr} {fd : FuncData} (F : Fun K "_law_top" "_law_top" s__law_top f fd) : FnV P w K mg base 1 f fd ["_law_numbers"] (spV K mg 1 F__law_top) :=
  fnV_of F sc__law_top fun cdv A outer s H E gd room =>
    (vss_cons (vs_for (fun _ _ => passes_of rfl) rfl (vi_enum B.enumerate (va_cons (ve_vF 0) va_nil)) (vg_tup rfl (vgs_cons (vg_nameF (i := 1) sc__law_top.nd rfl (Or.inl rfl)) (vgs_cons (vg_nameF (i := 2) sc__law_top.nd rfl (Or.inl rfl)) vgs_nil))) (fun _ => (calm_gT (calm_gCons (fun _ => calm_gNF) (calm_gCons (fun _ => calm_gNF) (fun _ => calm_gNil))))) (vss_one (vs_if (vt_cmp (o_ne (hu64 room)) (ve_vF 2) (ve_op o_add (ve_vF 1) ve_int) (nomark _)) (vss_one (vs_ret (ve_vF 1))) vss_nil)))
    (vss_one (vs_ret (ve_callB c_len B.len b_len (va_cons (ve_vF 0) va_nil)))))
abbrev s__law_right : Stmt := top 82
def m__law_right : M Flow :=
  (sSeq (sAsg (mCall 2 [true, false] F__law_row (mCons (mPlF 0) (mCons (mVal (.int 12)) mNil))) (gNF 1))
    (sSeq (sAsg (mCall 2 [true, false] F__law_passed (mCons (mPlF 0) (mCons (mPlF 1) mNil))) (gNF 2))
    (sSeq (sParO [3, 4] (mConsO (mC bRepr (mCons (mPlF 2) mNil)) (mConsO (mCall 1 [false] F_stair (mCons (mPlF 2) mNil)) mNil)))
    (sSeq (sAsg (mCall 1 [false] F__law_points (mCons (mPlF 1) mNil)) (gNF 5))
    (sSeq (sIf (mOrT (mNotT (mT (mC (bIsiC "Spots") (mCons (mPlF 4) (mCons (mVal (.cls "Spots")) mNil))))) (mOrT (mB (mOp opNe (mMeth "Spots" "points" 1 F_Spots_points (mPlF 4) mNil) (mPlF 5))) (mOrT (mB (mOp opNe (mProp "Spots" "size" F_Spots_size (mPlF 4)) (mC bSum (mCons (mPlF 1) mNil)))) (mB (mOp (opNeC "Spots" F_Spots___eq__) (mCallK 1 [0] [false] F_stair (mCons (mPlF 2) mNil)) (mPlF 4)))))) (sRet (mVal (.bl false))) sNx)
    (sSeq (sFor (mIt (mPlF 5)) (gT 3 (gCons (gNF 6) (gCons (gNF 7) (gCons (gNF 8) gNil)))) (sIf (mOrT (mAndT (mB (mOp opGt (mPlF 6) (mVal (.int 0)))) (mB (mOp opNotIn (mTup (mCons (mOp opSub (mPlF 6) (mVal (.int 1))) (mCons (mPlF 7) (mCons (mVal (.int 1)) mNil)))) (mPlF 5)))) (mAndT (mB (mOp opGt (mPlF 7) (mVal (.int 0)))) (mB (mOp opNotIn (mTup (mCons (mPlF 6) (mCons (mOp opSub (mPlF 7) (mVal (.int 1))) (mCons (mVal (.int 1)) mNil)))) (mPlF 5))))) (sRet (mVal (.bl false))) sNx))
    (sSeq (sAsg (mCall 2 [true, false] F__law_pick (mCons (mPlF 0) (mCons (mLst (mCons (mTup (mCons (mTup (mCons (mVal (.int 1)) (mCons (mVal (.int 0)) (mCons (mVal (.int 0)) mNil)))) (mCons (mTup (mCons (mVal (.int 0)) (mCons (mVal (.int 1)) (mCons (mVal (.int 0)) mNil)))) (mCons (mTup (mCons (mVal (.int 0)) (mCons (mVal (.int 0)) (mCons (mVal (.int 1)) mNil)))) mNil)))) (mCons (mTup (mCons (mTup (mCons (mVal (.int 0)) (mCons (mVal (.int 1)) (mCons (mVal (.int 1)) mNil)))) (mCons (mTup (mCons (mVal (.int 1)) (mCons (mVal (.int 0)) (mCons (mVal (.int 1)) mNil)))) (mCons (mTup (mCons (mVal (.int 0)) (mCons (mVal (.int 0)) (mCons (mVal (.int 1)) mNil)))) mNil)))) (mCons (mTup (mCons (mTup (mCons (mVal (.int 1)) (mCons (mVal (.int 1)) (mCons (mVal (.int 0)) mNil)))) (mCons (mTup (mCons (mVal (.int 0)) (mCons (mVal (.int 1)) (mCons (mVal (.int 2)) mNil)))) (mCons (mTup (mCons (mVal (.int 1)) (mCons (mVal (.int 0)) (mCons (mVal (.int 1)) mNil)))) mNil)))) mNil)))) mNil))) (gNF 9))
    (sSeq (sFor (mIt (mLst (mCons (mPlF 4) (mCons (mCall 2 [false, false] F_moved (mCons (mPlF 4) (mCons (mPlF 9) mNil))) mNil)))) (gNF 10) (sSeq (sAsg (mCall 1 [false] F_row (mCons (mPlF 10) mNil)) (gNF 11))
      (sIf (mOrT (mB (mOp opNe (mPlF 11) (mPlF 1))) (mOrT (mB (mOp opNotB (mCall 1 [false] F_is_row (mCons (mPlF 11) mNil)) (mVal (.bl true)))) (mB (mOp opNe (mCall 1 [false] F_top (mCons (mPlF 10) mNil)) (mCall 1 [false] F__law_top (mCons (mPlF 1) mNil)))))) (sRet (mVal (.bl false))) sNx)))
    (sSeq (sAsg (mCall 2 [true, false] F__law_draw (mCons (mPlF 0) (mCons (mC bLen (mCons (mPlF 1) mNil)) mNil))) (gNF 12))
    (sSeq (sIf (mOrT (mB (mOp opNe (mCall 1 [false] F_end (mCons (mPlF 4) mNil)) (mOp opSub (mC bLen (mCons (mPlF 1) mNil)) (mVal (.int 1))))) (mB (mOp opNe (mCall 2 [false, false] F_conditions (mCons (mPlF 4) (mCons (mPlF 12) mNil))) (mC bSum (mCons (mSl (mPlF 1) mNo (mSome (mOp opAdd (mPlF 12) (mVal (.int 1))))) mNil))))) (sRet (mVal (.bl false))) sNx)
    (sRet (mOp opEq (mC bRepr (mCons (mPlF 2) mNil)) (mPlF 3)))))))))))))
abbrev F__law_right : Fn := fnBody 13 m__law_right
theorem sc__law_right : FnScope ["_law_pot_here", "_law_numbers", "_law_given", "_law_kept", "_law_spots", "_law_points_here", "_law_first", "_law_second", "_law_last", "_law_table", "_law_some", "_law_told", "_law_degree"] ["_law_pot_here"] (defScope s__law_right) := ⟨rfl, rfl, rfl, by decide +kernel, rfl, by decide +kernel, by decide +kernel⟩
theorem ok__law_right (B : Bt mg) {c_Spots : Addr} (m_Spots : mg "Spots" = some (.ref c_Spots)) (D__law_draw : Dv P w K mg base 1 "_law_draw" s__law_draw ["_law_pot_here", "_law_size"] F__law_draw) (D__law_passed : Dv P w K mg base 2 "_law_passed" s__law_passed ["_law_pot_here", "_law_numbers"] F__law_passed) (D__law_pick : Dv P w K mg base 2 "_law_pick" s__law_pick ["_law_pot_here", "_law_some"] F__law_pick) (D__law_points : Dv P w K mg base 1 "_law_points" s__law_points ["_law_numbers"] F__law_points) (D__law_row : Dv P w K mg base 2 "_law_row" s__law_row ["_law_pot_here", "_law_most"] F__law_row) (D__law_top : Dv P w K mg base 1 "_law_top" s__law_top ["_law_numbers"] F__law_top) (D_conditions : Dv P w K mg base 5 "conditions" s_conditions ["spots", "degree"] F_conditions) (D_end : Dv P w K mg base 7 "end" s_end ["spots"] F_end) (D_is_row : Dv P w K mg base 4 "is_row" s_is_row ["value"] F_is_row) (D_moved : Dv P w K mg base 7 "moved" s_moved ["spots", "table"] F_moved) (D_row : Dv P w K mg base 8 "row" s_row ["spots"] F_row) (D_stair : Dv P w K mg base 7 "stair" s_stair ["row"] F_stair) (D_top : Dv P w K mg base 7 "top" s_top ["spots"] F_top) (IC_Spots : Ic K mg "Spots") (M_Spots_points : Mv P w K mg base 1 "Spots" "points" ["self"] F_Spots_points) (NC_Spots : Nc P w K mg base 1 "Spots" ["self", "other"] F_Spots___eq__) (P_Spots_size : Pv P w K mg base 1 "Spots" "size" ["self"] F_Spots_size) {f : Addr} {fd : FuncData} (F : Fun K "_law_right" "_law_right" s__law_right f fd) : FnV P w K mg base 9 f fd ["_law_pot_here"] (spV K mg 1 F__law_right) :=
  fnV_of F sc__law_right fun cdv A outer s H E gd room =>
    (vss_cons (vs_setF (i := 1) sc__law_right.nd rfl (Or.inl rfl) (ve_callC D__law_row gd (room.mono (by decide : 2 ≤ 8)) [true, false] (va_cons (ve_vF 0) (va_cons ve_int va_nil))))
    (vss_cons (vs_setF (i := 2) sc__law_right.nd rfl (Or.inl rfl) (ve_callC D__law_passed gd (room.mono (by decide : 2 ≤ 8)) [true, false] (va_cons (ve_vF 0) (va_cons (ve_vF 1) va_nil))))
    (vss_cons (vs_parO (i := 3) (j := 4) rfl sc__law_right.nd rfl rfl (by decide) rfl rfl (vo_cons (ve_callB (c_repr gd (hu64 room)) B.repr b_repr (va_cons (ve_vF 2) va_nil)) (vo_cons (ve_callC D_stair gd (room.mono (by decide : 7 ≤ 8)) [false] (va_cons (ve_vF 2) va_nil)) vo_nil)) (by rfl))
    (vss_cons (vs_setF (i := 5) sc__law_right.nd rfl (Or.inl rfl) (ve_callC D__law_points gd (room.mono (by decide : 1 ≤ 8)) [false] (va_cons (ve_vF 1) va_nil)))
    (vss_cons (vs_if (VW.t (vw_or (vt_not (vt_tru (ve_callB (c_isiC IC_Spots) B.isinstance b_isinstance (va_cons (ve_vF 4) (va_cons (ve_cls m_Spots) va_nil))))) (vw_or (vt_cmp (o_ne (hu64 room)) (ve_meth0 M_Spots_points gd (room.mono (by decide : 1 ≤ 8)) (ve_vF 4)) (ve_vF 5) (nomark _)) (vw_or (vt_cmp (o_ne (hu64 room)) (ve_prop P_Spots_size gd (room.mono (by decide : 2 ≤ 8)) (ve_vF 4)) (ve_callB (c_sum rfl) B.sum b_sum (va_cons (ve_vF 1) va_nil)) (nomark _)) (vw_or1 (vt_cmp (o_neC NC_Spots gd (room.mono (by decide : 2 ≤ 8))) (ve_callCK (kn := ["row"]) D_stair gd (room.mono (by decide : 7 ≤ 8)) [0] (fun _ _ _ _ _ _ ws hl => match ws, hl with | [_], _ => rfl) [false] (vk_cons (ve_vF 2) vk_nil)) (ve_vF 4) (nomark _))))))) (vss_one (vs_ret ve_bl)) vss_nil)
    (vss_cons (vs_for (fun _ _ => passes_of rfl) rfl (vi_any (ve_vF 5)) (vg_tup rfl (vgs_cons (vg_nameF (i := 6) sc__law_right.nd rfl (Or.inl rfl)) (vgs_cons (vg_nameF (i := 7) sc__law_right.nd rfl (Or.inl rfl)) (vgs_cons (vg_nameF (i := 8) sc__law_right.nd rfl (Or.inl rfl)) vgs_nil)))) (fun _ => (calm_gT (calm_gCons (fun _ => calm_gNF) (calm_gCons (fun _ => calm_gNF) (calm_gCons (fun _ => calm_gNF) (fun _ => calm_gNil)))))) (vss_one (vs_if (VW.t (vw_or (VW.t (vw_and (vt_cmp o_gt (ve_vF 6) ve_int (nomark _)) (vw_and1 (vt_cmp (o_notIn (hu65 room)) (ve_tup (va_cons (ve_op o_sub (ve_vF 6) ve_int) (va_cons (ve_vF 7) (va_cons ve_int va_nil)))) (ve_vF 5) rfl)))) (vw_or1 (VW.t (vw_and (vt_cmp o_gt (ve_vF 7) ve_int (nomark _)) (vw_and1 (vt_cmp (o_notIn (hu65 room)) (ve_tup (va_cons (ve_vF 6) (va_cons (ve_op o_sub (ve_vF 7) ve_int) (va_cons ve_int va_nil)))) (ve_vF 5) rfl))))))) (vss_one (vs_ret ve_bl)) vss_nil)))
    (vss_cons (vs_setF (i := 9) sc__law_right.nd rfl (Or.inl rfl) (ve_callC D__law_pick gd (room.mono (by decide : 2 ≤ 8)) [true, false] (va_cons (ve_vF 0) (va_cons (ve_lst (va_cons (ve_tup (va_cons (ve_tup (va_cons ve_int (va_cons ve_int (va_cons ve_int va_nil)))) (va_cons (ve_tup (va_cons ve_int (va_cons ve_int (va_cons ve_int va_nil)))) (va_cons (ve_tup (va_cons ve_int (va_cons ve_int (va_cons ve_int va_nil)))) va_nil)))) (va_cons (ve_tup (va_cons (ve_tup (va_cons ve_int (va_cons ve_int (va_cons ve_int va_nil)))) (va_cons (ve_tup (va_cons ve_int (va_cons ve_int (va_cons ve_int va_nil)))) (va_cons (ve_tup (va_cons ve_int (va_cons ve_int (va_cons ve_int va_nil)))) va_nil)))) (va_cons (ve_tup (va_cons (ve_tup (va_cons ve_int (va_cons ve_int (va_cons ve_int va_nil)))) (va_cons (ve_tup (va_cons ve_int (va_cons ve_int (va_cons ve_int va_nil)))) (va_cons (ve_tup (va_cons ve_int (va_cons ve_int (va_cons ve_int va_nil)))) va_nil)))) va_nil)))) va_nil))))
    (vss_cons (vs_for (fun _ _ => passes_of rfl) rfl (vi_any (ve_lst (va_cons (ve_vF 4) (va_cons (ve_callC D_moved gd (room.mono (by decide : 7 ≤ 8)) [false, false] (va_cons (ve_vF 4) (va_cons (ve_vF 9) va_nil))) va_nil)))) (vg_nameF (i := 10) sc__law_right.nd rfl (Or.inl rfl)) (fun _ => calm_gNF) (vss_cons (vs_setF (i := 11) sc__law_right.nd rfl (Or.inl rfl) (ve_callC D_row gd room [false] (va_cons (ve_vF 10) va_nil)))
      (vss_one (vs_if (VW.t (vw_or (vt_cmp (o_ne (hu64 room)) (ve_vF 11) (ve_vF 1) (nomark _)) (vw_or (vt_cmp o_notB (ve_callC D_is_row gd (room.mono (by decide : 4 ≤ 8)) [false] (va_cons (ve_vF 11) va_nil)) ve_bl (nomark _)) (vw_or1 (vt_cmp (o_ne (hu64 room)) (ve_callC D_top gd (room.mono (by decide : 7 ≤ 8)) [false] (va_cons (ve_vF 10) va_nil)) (ve_callC D__law_top gd (room.mono (by decide : 1 ≤ 8)) [false] (va_cons (ve_vF 1) va_nil)) (nomark _)))))) (vss_one (vs_ret ve_bl)) vss_nil))))
    (vss_cons (vs_setF (i := 12) sc__law_right.nd rfl (Or.inl rfl) (ve_callC D__law_draw gd (room.mono (by decide : 1 ≤ 8)) [true, false] (va_cons (ve_vF 0) (va_cons (ve_callB c_len B.len b_len (va_cons (ve_vF 1) va_nil)) va_nil))))
    (vss_cons (vs_if (VW.t (vw_or (vt_cmp (o_ne (hu64 room)) (ve_callC D_end gd (room.mono (by decide : 7 ≤ 8)) [false] (va_cons (ve_vF 4) va_nil)) (ve_op o_sub (ve_callB c_len B.len b_len (va_cons (ve_vF 1) va_nil)) ve_int) (nomark _)) (vw_or1 (vt_cmp (o_ne (hu64 room)) (ve_callC D_conditions gd (room.mono (by decide : 5 ≤ 8)) [false, false] (va_cons (ve_vF 4) (va_cons (ve_vF 12) va_nil))) (ve_callB (c_sum rfl) B.sum b_sum (va_cons (ve_slice (ve_vF 1) vo_none (vo_some (ve_op o_add (ve_vF 12) ve_int))) va_nil)) (nomark _))))) (vss_one (vs_ret ve_bl)) vss_nil)
    (vss_one (vs_ret (ve_cmp (o_eq (hu64 room)) (ve_callB (c_repr gd (hu64 room)) B.repr b_repr (va_cons (ve_vF 2) va_nil)) (ve_vF 3) (nomark _))))))))))))))
abbrev s__law_pot : Stmt := top 75
def m__law_pot : M Flow :=
  (sSeq (sAsg (mOp opAdd (mOp opMul (mVal (.int 313)) (mPlF 1)) (mVal (.int 71))) (gNF 2))
    (sSeq (sIf (mB (mOp opLt (mPlF 1) (mC bLen (mCons (mPlF 0) mNil)))) (sAsg (mC bAbs (mCons (mOp opIx (mPlF 0) (mPlF 1)) mNil)) (gNF 2)) sNx)
    (sRet (mLst (mCons (mC bMax (mCons (mVal (.int 0)) (mCons (mOp opSub (mPlF 2) (mOp opPow (mVal (.int 10)) (mVal (.int 18)))) mNil))) (mCons (mOp opAdd (mOp opMod (mC bInt (mCons (mOp opAdd (mOp opAdd (mOp opMul (mOp opMod (mC bInt (mCons (mPlF 2) mNil)) (mVal (.int 2147483549))) (mVal (.int 40014))) (mOp opMul (mVal (.int 7027)) (mPlF 1))) (mVal (.int 31))) mNil)) (mVal (.int 2147483563))) (mVal (.int 1))) mNil))))))
abbrev F__law_pot : Fn := fnBody 3 m__law_pot
theorem sc__law_pot : FnScope ["_law_script", "_law_k", "_law_cell"] ["_law_script", "_law_k"] (defScope s__law_pot) := ⟨rfl, rfl, rfl, by decide +kernel, rfl, by decide +kernel, by decide +kernel⟩
theorem ok__law_pot (B : Bt mg) {f : Addr} {fd : FuncData} (F : Fun K "_law_pot" "_law_pot" s__law_pot f fd) : FnV P w K mg base 1 f fd ["_law_script", "_law_k"] (spV K mg 2 F__law_pot) :=
  fnV_of F sc__law_pot fun cdv A outer s H E gd room =>
    (vss_cons (vs_setF (i := 2) sc__law_pot.nd rfl (Or.inl rfl) (ve_op o_add (ve_op o_mul ve_int (ve_vF 1)) ve_int))
    (vss_cons (vs_if (vt_cmp o_lt (ve_vF 1) (ve_callB c_len B.len b_len (va_cons (ve_vF 0) va_nil)) (nomark _)) (vss_one (vs_setF (i := 2) sc__law_pot.nd rfl (Or.inl rfl) (ve_callB c_abs B.abs b_abs (va_cons (ve_ix (ve_vF 0) (ve_vF 1)) va_nil)))) vss_nil)
    (vss_one (vs_ret (ve_lst (va_cons (ve_callB (c_max rfl) B.max b_max (va_cons ve_int (va_cons (ve_op o_sub (ve_vF 2) (ve_op o_pow ve_int ve_int)) va_nil))) (va_cons (ve_op o_add (ve_op o_mod (ve_callTy c_int B.int b_int (va_cons (ve_op o_add (ve_op o_add (ve_op o_mul (ve_op o_mod (ve_callTy c_int B.int b_int (va_cons (ve_vF 2) va_nil)) ve_int) ve_int) (ve_op o_mul ve_int (ve_vF 1))) ve_int) va_nil)) ve_int) ve_int) va_nil)))))))
abbrev s_law : Stmt := top 83
def m_law : M Flow :=
  (sRet (mCallT F__law_right (mCall 2 [false, false] F__law_pot (mCons (mPlF 0) (mCons (mVal (.int 0)) mNil)))))
abbrev F_law : Fn := fnBody 1 m_law
theorem sc_law : FnScope ["_law_script"] ["_law_script"] (defScope s_law) := ⟨rfl, rfl, rfl, by decide +kernel, rfl, by decide +kernel, by decide +kernel⟩
theorem ok_law (B : Bt mg) (D__law_pot : Dv P w K mg base 1 "_law_pot" s__law_pot ["_law_script", "_law_k"] F__law_pot) (D__law_right : Dv P w K mg base 9 "_law_right" s__law_right ["_law_pot_here"] F__law_right) {f : Addr} {fd : FuncData} (F : Fun K "law" "law" s_law f fd) : FnV P w K mg base 10 f fd ["_law_script"] (spV K mg 1 F_law) :=
  fnV_of F sc_law fun cdv A outer s H E gd room =>
    (vss_one (vs_ret (ve_callT D__law_right gd room (ve_callC D__law_pot gd (room.mono (by decide : 1 ≤ 9)) [false, false] (va_cons (ve_vF 0) (va_cons ve_int va_nil))))))
end
end VE

namespace VE
open PySem PySem.Spec PyProof.Rows L2 G0
noncomputable section
structure P3 where
  x : Int
  y : Int
  z : Int
def P3.le (p : P3) (b : Nat) : Prop := p.x.natAbs ≤ b ∧ p.y.natAbs ≤ b ∧ p.z.natAbs ≤ b
def v3 (t : Bool) (p : P3) : D := sq t [.int p.x, .int p.y, .int p.z]
def dot3 (p q : P3) : Int := p.x * q.x + (p.y * q.y + p.z * q.z)
def cross3 (p q : P3) : P3 := ⟨p.y * q.z - p.z * q.y, p.z * q.x - p.x * q.z, p.x * q.y - p.y * q.x⟩
section
variable {t u : Bool} {p q : P3} {a b : Nat}
theorem ret_dot (hp : p.le a) (hq : q.le b) (ha : a < 2 ^ 401 := by decide) (hb : b < 2 ^ 401 := by decide) : Ret F_dot [.val (v3 t p), .val (v3 u q)] (.val (.int (dot3 p q))) := by
  have m1 := opMul_of hp.1 hq.1 ha hb
  have m2 := opMul_of hp.2.1 hq.2.1 ha hb
  have m3 := opMul_of hp.2.2 hq.2.2 ha hb
  refine ret_of ?_
  simp [Ob.d, sSeq, sNx, sIf, sAsg, sExp, sRet, moveR, M.bind, M.ret, mVal, mPlF, lookF_eq, setF_eq, gNF, gCons, gNil, set1, hold, cont, conts, mOp, fin2, mUn, fin1, mC, finC, mCons, mNil, mTup, mLst, settle, mB, finB, mT, finT, mNotT, mAndT, mOrT, mNotV, mAndV, mOrV, mIf, truth, mLC, lcL, turn, noexc, wipeE, unwipe, tt1, mIt, finI_sq, finI_lst, finI_tup, finI_own, mZip, finZ, zipD, mZip3, finZ3, zip3D, seqD_sq, seqD_lst, seqD_tup, mCall, pre, runF, lent, mkArgs, obAt, backE, Slot.put, rB, rI', opAdd, opSub, opIx_sq, opIx_lst, opIx_tup, at0, at1, at2, bLen_sq, bLen_lst, bLen_tup, isi_sq, bList_sq, bTuple_sq, bList_lst, bList_tup, bTuple_lst, bTuple_tup, intsD, boolsD, rtF, szOk, sizeLine, m_dot, v3, m1, m2, m3, bSum, gT, dot3]
theorem ret_crossed (hp : p.le a) (hq : q.le b) (ha : a < 2 ^ 401 := by decide) (hb : b < 2 ^ 401 := by decide) : Ret F_crossed [.val (v3 t p), .val (v3 u q)] (.own (.lst [.int (cross3 p q).x, .int (cross3 p q).y, .int (cross3 p q).z])) := by
  have m1 := opMul_of hp.2.1 hq.2.2 ha hb
  have m2 := opMul_of hp.2.2 hq.2.1 ha hb
  have m3 := opMul_of hp.2.2 hq.1 ha hb
  have m4 := opMul_of hp.1 hq.2.2 ha hb
  have m5 := opMul_of hp.1 hq.2.1 ha hb
  have m6 := opMul_of hp.2.1 hq.1 ha hb
  refine ret_of ?_
  simp [Ob.d, sSeq, sNx, sIf, sAsg, sExp, sRet, moveR, M.bind, M.ret, mVal, mPlF, lookF_eq, setF_eq, gNF, gCons, gNil, set1, hold, cont, conts, mOp, fin2, mUn, fin1, mC, finC, mCons, mNil, mTup, mLst, settle, mB, finB, mT, finT, mNotT, mAndT, mOrT, mNotV, mAndV, mOrV, mIf, truth, mLC, lcL, turn, noexc, wipeE, unwipe, tt1, mIt, finI_sq, finI_lst, finI_tup, finI_own, mZip, finZ, zipD, mZip3, finZ3, zip3D, seqD_sq, seqD_lst, seqD_tup, mCall, pre, runF, lent, mkArgs, obAt, backE, Slot.put, rB, rI', opAdd, opSub, opIx_sq, opIx_lst, opIx_tup, at0, at1, at2, bLen_sq, bLen_lst, bLen_tup, isi_sq, bList_sq, bTuple_sq, bList_lst, bList_tup, bTuple_lst, bTuple_tup, intsD, boolsD, rtF, szOk, sizeLine, m_crossed, v3, m1, m2, m3, m4, m5, m6, gT_sq, cross3]
end
end
end VE

namespace VE
open PySem PySem.Spec PyProof.Rows L2 G0
noncomputable section
theorem opEq_int {i j : Int} : opEq (.int i) (.int j) = some (.val (.bl (decide (i = j)))) := rfl
theorem opNe_int {i j : Int} : opNe (.int i) (.int j) = some (.val (.bl (!decide (i = j)))) := rfl
theorem isi_int {i : Int} : bIsi [.int i, .ty .int] = some (.val (.bl true)) := rfl
theorem isi_intb {i : Int} : bIsi [.int i, .ty .bool] = some (.val (.bl false)) := rfl
theorem natAbs_mul_le {x y : Int} {a b : Nat} (hx : x.natAbs ≤ a) (hy : y.natAbs ≤ b) : (x * y).natAbs ≤ a * b := by
  rw [Int.natAbs_mul]
  exact Nat.mul_le_mul hx hy
section
variable {p q : P3} {a b : Nat}
theorem P3.le.mono (h : p.le a) (hab : a ≤ b) : p.le b := ⟨Nat.le_trans h.1 hab, Nat.le_trans h.2.1 hab, Nat.le_trans h.2.2 hab⟩
theorem dot_le (hp : p.le a) (hq : q.le b) : (dot3 p q).natAbs ≤ 3 * (a * b) := by
  have h1 := natAbs_mul_le hp.1 hq.1
  have h2 := natAbs_mul_le hp.2.1 hq.2.1
  have h3 := natAbs_mul_le hp.2.2 hq.2.2
  unfold dot3
  omega
theorem cross_le (hp : p.le a) (hq : q.le b) : (cross3 p q).le (2 * (a * b)) := by
  have m1 := natAbs_mul_le hp.2.1 hq.2.2
  have m2 := natAbs_mul_le hp.2.2 hq.2.1
  have m3 := natAbs_mul_le hp.2.2 hq.1
  have m4 := natAbs_mul_le hp.1 hq.2.2
  have m5 := natAbs_mul_le hp.1 hq.2.1
  have m6 := natAbs_mul_le hp.2.1 hq.1
  refine ⟨?_, ?_, ?_⟩ <;> (unfold cross3; dsimp only; omega)
end
structure M3 where
  a : P3
  b : P3
  c : P3
def M3.le (T : M3) (b : Nat) : Prop := T.a.le b ∧ T.b.le b ∧ T.c.le b
theorem M3.le.mono {T : M3} {a b : Nat} (h : T.le a) (hab : a ≤ b) : T.le b := ⟨h.1.mono hab, h.2.1.mono hab, h.2.2.mono hab⟩
def det3 (T : M3) : Int := dot3 T.a (cross3 T.b T.c)
def t3 (t t1 t2 t3 : Bool) (T : M3) : D := sq t [v3 t1 T.a, v3 t2 T.b, v3 t3 T.c]
section
variable {t t1 t2 t4 : Bool} {T : M3} {p : P3}
theorem ret_determinant (h : T.le 1267650600228229401496703205376) : Ret F_determinant [.val (t3 t t1 t2 t4 T)] (.val (.int (det3 T))) := by
  obtain ⟨ρ1, h1⟩ := (ret_crossed (t := t2) (u := t4) h.2.1 h.2.2).ex
  obtain ⟨ρ2, h2⟩ := (ret_dot (t := t1) (u := true) h.1 (cross_le h.2.1 h.2.2)).ex
  have h2 : F_dot [.val (v3 t1 T.a), .val (.lst [.int (cross3 T.b T.c).x, .int (cross3 T.b T.c).y, .int (cross3 T.b T.c).z])] = _ := h2
  refine ret_of ?_
  simp [Ob.d, sSeq, sNx, sIf, sAsg, sExp, sRet, moveR, M.bind, M.ret, mVal, mPlF, lookF_eq, setF_eq, gNF, gCons, gNil, set1, hold, cont, conts, mOp, fin2, mUn, fin1, mC, finC, mCons, mNil, mTup, mLst, settle, mB, finB, mT, finT, mNotT, mAndT, mOrT, mNotV, mAndV, mOrV, mIf, truth, mLC, lcL, turn, noexc, wipeE, unwipe, tt1, mIt, finI_sq, finI_lst, finI_tup, finI_own, mZip, finZ, zipD, mZip3, finZ3, zip3D, seqD_sq, seqD_lst, seqD_tup, mCall, pre, runF, lent, mkArgs, obAt, backE, Slot.put, rB, rI', opAdd, opSub, opIx_sq, opIx_lst, opIx_tup, at0, at1, at2, bLen_sq, bLen_lst, bLen_tup, isi_sq, bList_sq, bTuple_sq, bList_lst, bList_tup, bTuple_lst, bTuple_tup, intsD, boolsD, rtF, szOk, sizeLine, m_determinant, t3, h1, h2, det3]
theorem ret_is_list {xs : List D} : Ret F_is_list [.val (sq t xs)] (.val (.bl true)) := by
  refine ret_of ?_
  simp [Ob.d, sSeq, sNx, sIf, sAsg, sExp, sRet, moveR, M.bind, M.ret, mVal, mPlF, lookF_eq, setF_eq, gNF, gCons, gNil, set1, hold, cont, conts, mOp, fin2, mUn, fin1, mC, finC, mCons, mNil, mTup, mLst, settle, mB, finB, mT, finT, mNotT, mAndT, mOrT, mNotV, mAndV, mOrV, mIf, truth, mLC, lcL, turn, noexc, wipeE, unwipe, tt1, mIt, finI_sq, finI_lst, finI_tup, finI_own, mZip, finZ, zipD, mZip3, finZ3, zip3D, seqD_sq, seqD_lst, seqD_tup, mCall, pre, runF, lent, mkArgs, obAt, backE, Slot.put, rB, rI', opAdd, opSub, opIx_sq, opIx_lst, opIx_tup, at0, at1, at2, bLen_sq, bLen_lst, bLen_tup, isi_sq, bList_sq, bTuple_sq, bList_lst, bList_tup, bTuple_lst, bTuple_tup, intsD, boolsD, rtF, szOk, sizeLine, m_is_list]
theorem ret_is_integer {i : Int} : Ret F_is_integer [.val (.int i)] (.val (.bl true)) := by
  refine ret_of ?_
  simp [Ob.d, sSeq, sNx, sIf, sAsg, sExp, sRet, moveR, M.bind, M.ret, mVal, mPlF, lookF_eq, setF_eq, gNF, gCons, gNil, set1, hold, cont, conts, mOp, fin2, mUn, fin1, mC, finC, mCons, mNil, mTup, mLst, settle, mB, finB, mT, finT, mNotT, mAndT, mOrT, mNotV, mAndV, mOrV, mIf, truth, mLC, lcL, turn, noexc, wipeE, unwipe, tt1, mIt, finI_sq, finI_lst, finI_tup, finI_own, mZip, finZ, zipD, mZip3, finZ3, zip3D, seqD_sq, seqD_lst, seqD_tup, mCall, pre, runF, lent, mkArgs, obAt, backE, Slot.put, rB, rI', opAdd, opSub, opIx_sq, opIx_lst, opIx_tup, at0, at1, at2, bLen_sq, bLen_lst, bLen_tup, isi_sq, bList_sq, bTuple_sq, bList_lst, bList_tup, bTuple_lst, bTuple_tup, intsD, boolsD, rtF, szOk, sizeLine, m_is_integer, isi_int, isi_intb]
theorem ret_is_three : Ret F_is_three [.val (v3 t p)] (.val (.bl true)) := by
  obtain ⟨ρ1, h1⟩ := (ret_is_list (t := t) (xs := [.int p.x, .int p.y, .int p.z])).ex
  have h2 : ∀ i : Int, ∃ ρ, F_is_integer [.val (.int i)] = .ok (.val (.bl true)) ρ := fun i => ret_is_integer.ex
  obtain ⟨ρ2, h2⟩ := h2 p.x
  obtain ⟨ρ3, h3⟩ := ret_is_integer.ex (F := F_is_integer) (args := [.val (.int p.y)])
  obtain ⟨ρ4, h4⟩ := ret_is_integer.ex (F := F_is_integer) (args := [.val (.int p.z)])
  refine ret_of ?_
  simp [Ob.d, sSeq, sNx, sIf, sAsg, sExp, sRet, moveR, M.bind, M.ret, mVal, mPlF, lookF_eq, setF_eq, gNF, gCons, gNil, set1, hold, cont, conts, mOp, fin2, mUn, fin1, mC, finC, mCons, mNil, mTup, mLst, settle, mB, finB, mT, finT, mNotT, mAndT, mOrT, mNotV, mAndV, mOrV, mIf, truth, mLC, lcL, turn, noexc, wipeE, unwipe, tt1, mIt, finI_sq, finI_lst, finI_tup, finI_own, mZip, finZ, zipD, mZip3, finZ3, zip3D, seqD_sq, seqD_lst, seqD_tup, mCall, pre, runF, lent, mkArgs, obAt, backE, Slot.put, rB, rI', opAdd, opSub, opIx_sq, opIx_lst, opIx_tup, at0, at1, at2, bLen_sq, bLen_lst, bLen_tup, isi_sq, bList_sq, bTuple_sq, bList_lst, bList_tup, bTuple_lst, bTuple_tup, intsD, boolsD, rtF, szOk, sizeLine, m_is_three, v3, h1, h2, h3, h4, opEq_int, bAll]
theorem ret_is_three_by_three (h : T.le 1267650600228229401496703205376) : Ret F_is_three_by_three [.val (t3 t t1 t2 t4 T)] (.val (.bl (!decide (det3 T = 0)))) := by
  obtain ⟨ρ1, h1⟩ := (ret_is_list (t := t) (xs := [v3 t1 T.a, v3 t2 T.b, v3 t4 T.c])).ex
  obtain ⟨ρ2, h2⟩ := (ret_is_three (t := t1) (p := T.a)).ex
  obtain ⟨ρ3, h3⟩ := (ret_is_three (t := t2) (p := T.b)).ex
  obtain ⟨ρ4, h4⟩ := (ret_is_three (t := t4) (p := T.c)).ex
  obtain ⟨ρ5, h5⟩ := (ret_determinant (t := t) (t1 := t1) (t2 := t2) (t4 := t4) h).ex
  have h5 : F_determinant [.val (sq t [v3 t1 T.a, v3 t2 T.b, v3 t4 T.c])] = _ := h5
  refine ret_of ?_
  simp [Ob.d, sSeq, sNx, sIf, sAsg, sExp, sRet, moveR, M.bind, M.ret, mVal, mPlF, lookF_eq, setF_eq, gNF, gCons, gNil, set1, hold, cont, conts, mOp, fin2, mUn, fin1, mC, finC, mCons, mNil, mTup, mLst, settle, mB, finB, mT, finT, mNotT, mAndT, mOrT, mNotV, mAndV, mOrV, mIf, truth, mLC, lcL, turn, noexc, wipeE, unwipe, tt1, mIt, finI_sq, finI_lst, finI_tup, finI_own, mZip, finZ, zipD, mZip3, finZ3, zip3D, seqD_sq, seqD_lst, seqD_tup, mCall, pre, runF, lent, mkArgs, obAt, backE, Slot.put, rB, rI', opAdd, opSub, opIx_sq, opIx_lst, opIx_tup, at0, at1, at2, bLen_sq, bLen_lst, bLen_tup, isi_sq, bList_sq, bTuple_sq, bList_lst, bList_tup, bTuple_lst, bTuple_tup, intsD, boolsD, rtF, szOk, sizeLine, m_is_three_by_three, t3, h1, h2, h3, h4, h5, opEq_int, opNe_int, bAll]
theorem ret_check_table (h : T.le 1267650600228229401496703205376) (d : det3 T ≠ 0) : Ret F_check_table [.val (t3 t t1 t2 t4 T)] (.val .non) := by
  obtain ⟨ρ5, h5⟩ := (ret_is_three_by_three (t := t) (t1 := t1) (t2 := t2) (t4 := t4) h).ex
  refine ret_of ?_
  simp [Ob.d, sSeq, sNx, sIf, sAsg, sExp, sRet, moveR, M.bind, M.ret, mVal, mPlF, lookF_eq, setF_eq, gNF, gCons, gNil, set1, hold, cont, conts, mOp, fin2, mUn, fin1, mC, finC, mCons, mNil, mTup, mLst, settle, mB, finB, mT, finT, mNotT, mAndT, mOrT, mNotV, mAndV, mOrV, mIf, truth, mLC, lcL, turn, noexc, wipeE, unwipe, tt1, mIt, finI_sq, finI_lst, finI_tup, finI_own, mZip, finZ, zipD, mZip3, finZ3, zip3D, seqD_sq, seqD_lst, seqD_tup, mCall, pre, runF, lent, mkArgs, obAt, backE, Slot.put, rB, rI', opAdd, opSub, opIx_sq, opIx_lst, opIx_tup, at0, at1, at2, bLen_sq, bLen_lst, bLen_tup, isi_sq, bList_sq, bTuple_sq, bList_lst, bList_tup, bTuple_lst, bTuple_tup, intsD, boolsD, rtF, szOk, sizeLine, m_check_table, h5, d]
end
end
end VE

namespace VE
open PySem PySem.Spec PyProof.Rows L2 G0
def gcdL (ns : List Int) : Int := ns.foldl (fun c n => ((Nat.gcd c.natAbs n.natAbs : Nat) : Int)) 0
def firstN (ns : List Int) : Int := (ns.filter fun n => decide (n ≠ 0)).headD 0
def signed (ns : List Int) : Int := if firstN ns < 0 then -gcdL ns else gcdL ns
def plainI (ns : List Int) : List Int := ns.map fun n => n.fdiv (signed ns)
theorem gcd_fold : ∀ (ns : List Int) (c : Int), 0 ≤ c → 0 ≤ ns.foldl (fun c n => ((Nat.gcd c.natAbs n.natAbs : Nat) : Int)) c ∧ (ns.foldl (fun c n => ((Nat.gcd c.natAbs n.natAbs : Nat) : Int)) c ∣ c) ∧ ∀ n ∈ ns, ns.foldl (fun c n => ((Nat.gcd c.natAbs n.natAbs : Nat) : Int)) c ∣ n
  | [], c, h => ⟨h, Int.dvd_refl c, fun _ z => nomatch z⟩
  | m :: ns, c, h => by
    obtain ⟨h1, h2, h3⟩ := gcd_fold ns ((Nat.gcd c.natAbs m.natAbs : Nat) : Int) (Int.natCast_nonneg _)
    have a1 : ((Nat.gcd c.natAbs m.natAbs : Nat) : Int) ∣ c := Int.ofNat_dvd_left.mpr (Nat.gcd_dvd_left _ _)
    have a2 : ((Nat.gcd c.natAbs m.natAbs : Nat) : Int) ∣ m := Int.ofNat_dvd_left.mpr (Nat.gcd_dvd_right _ _)
    refine ⟨h1, Int.dvd_trans h2 a1, fun n hn => ?_⟩
    rcases List.mem_cons.mp hn with rfl | hn
    · exact Int.dvd_trans h2 a2
    · exact h3 n hn
theorem gcdL_nonneg (ns : List Int) : 0 ≤ gcdL ns := (gcd_fold ns 0 (Int.le_refl _)).1
theorem gcdL_dvd {ns : List Int} {n : Int} (h : n ∈ ns) : gcdL ns ∣ n := (gcd_fold ns 0 (Int.le_refl _)).2.2 n h
theorem gcdL_pos {ns : List Int} (h : ∃ n ∈ ns, n ≠ 0) : 0 < gcdL ns := by
  obtain ⟨n, hn, h0⟩ := h
  have d := gcdL_dvd hn
  have p := gcdL_nonneg ns
  have ne : gcdL ns ≠ 0 := fun e => h0 (by rw [e] at d; exact Int.zero_dvd.mp d)
  omega
theorem gcdL_le {ns : List Int} {n : Int} (h : n ∈ ns) (h0 : n ≠ 0) : (gcdL ns).natAbs ≤ n.natAbs := Nat.le_of_dvd (Int.natAbs_pos.mpr h0) (Int.natAbs_dvd_natAbs.mpr (gcdL_dvd h))
theorem gcdL_take {ns : List Int} {i : Nat} {n : Int} (h : ns[i]? = some n) : gcdL (ns.take (i + 1)) = ((Nat.gcd (gcdL (ns.take i)).natAbs n.natAbs : Nat) : Int) := by
  unfold gcdL
  rw [List.take_add_one, h, List.foldl_append]
  rfl

def nz (ns : List Int) : List Int := ns.filter fun n => decide (n ≠ 0)
theorem nz_fm (ns : List Int) : (ns.filterMap fun n => if n ≠ 0 then some n else none) = nz ns := by
  unfold nz
  induction ns with
  | nil => rfl
  | cons n ns ih =>
    by_cases h : n = 0
    · subst h
      rw [List.filterMap_cons, if_neg (by simp), List.filter_cons_of_neg (by simp)]
      exact ih
    · rw [List.filterMap_cons, if_pos h, List.filter_cons_of_pos (by simpa using h)]
      show n :: _ = n :: _
      rw [ih]
theorem nz_head {ns : List Int} (h : ∃ n ∈ ns, n ≠ 0) : (nz ns)[0]? = some (firstN ns) ∧ firstN ns ∈ ns ∧ firstN ns ≠ 0 := by
  obtain ⟨n, hn, h0⟩ := h
  have hm : n ∈ nz ns := List.mem_filter.mpr ⟨hn, by simpa using h0⟩
  unfold firstN
  show (nz ns)[0]? = some ((nz ns).headD 0) ∧ (nz ns).headD 0 ∈ ns ∧ (nz ns).headD 0 ≠ 0
  cases e : nz ns with
  | nil =>
    rw [e] at hm
    cases hm
  | cons m r =>
    have hm2 : m ∈ nz ns := by
      rw [e]
      exact List.mem_cons_self
    obtain ⟨a1, a2⟩ := List.mem_filter.mp hm2
    exact ⟨rfl, a1, by simpa using a2⟩
theorem gcd_step {f o : Int} (hf : 0 ≤ f) (ho : 0 < o) : 0 ≤ f.fmod o ∧ f.fmod o < o ∧ Nat.gcd o.natAbs (f.fmod o).natAbs = Nat.gcd f.natAbs o.natAbs := by
  have h1 := Int.fmod_nonneg_of_pos f ho
  have h2 := Int.fmod_lt_of_pos f ho
  refine ⟨h1, h2, ?_⟩
  rw [Int.fmod_eq_emod_of_nonneg _ (by omega)]
  have e : (f % o).natAbs = f.natAbs % o.natAbs := Int.natAbs_emod_of_nonneg hf _
  rw [e, Nat.gcd_comm, ← Nat.gcd_rec, Nat.gcd_comm]
theorem dvd_fdiv {g n : Int} (hg : 0 < g) (h : g ∣ n) : ∃ k, n = g * k ∧ n.fdiv g = k ∧ n.fdiv (-g) = -k := by
  obtain ⟨k, rfl⟩ := h
  refine ⟨k, rfl, Int.mul_fdiv_cancel_left k (by omega), ?_⟩
  have e : g * k = -g * -k := by rw [Int.neg_mul_neg]
  rw [e]
  exact Int.mul_fdiv_cancel_left (-k) (by omega)
theorem nz_map {d : Int → Int} : ∀ {ns : List Int}, (∀ n ∈ ns, d n = 0 ↔ n = 0) → nz (ns.map d) = (nz ns).map d
  | [], _ => rfl
  | n :: ns, h => by
    have ih := nz_map (d := d) (ns := ns) fun m hm => h m (List.mem_cons_of_mem _ hm)
    have e := h n List.mem_cons_self
    unfold nz at ih ⊢
    by_cases h0 : n = 0
    · have h1 : d n = 0 := e.mpr h0
      rw [List.map_cons, List.filter_cons_of_neg (by simp [h1]), List.filter_cons_of_neg (by simp [h0]), ih]
    · have h1 : d n ≠ 0 := fun z => h0 (e.mp z)
      rw [List.map_cons, List.filter_cons_of_pos (by simp [h1]), List.filter_cons_of_pos (by simp [h0]), ih, List.map_cons]
structure ToldBy (ns : List Int) : Prop where
  nz : ∃ n ∈ ns.map (fun n => n.fdiv (gcdL ns)), n ≠ 0
  pos : 0 < firstN (ns.map fun n => n.fdiv (gcdL ns)) → ns.map (fun n => n.fdiv (gcdL ns)) = plainI ns
  neg : ¬ 0 < firstN (ns.map fun n => n.fdiv (gcdL ns)) → (ns.map fun n => n.fdiv (gcdL ns)).map (fun n => 0 - n) = plainI ns
theorem told_by {ns : List Int} (h : ∃ n ∈ ns, n ≠ 0) : ToldBy ns := by
  have gp := gcdL_pos h
  have z : ∀ n ∈ ns, n.fdiv (gcdL ns) = 0 ↔ n = 0 := by
    intro n hn
    obtain ⟨k, e1, e2, _⟩ := dvd_fdiv gp (gcdL_dvd hn)
    rw [e2]
    constructor
    · intro ek
      rw [e1, ek, Int.mul_zero]
    · intro en
      rw [en] at e1
      rcases Int.mul_eq_zero.mp e1.symm with e | e
      · omega
      · exact e
  obtain ⟨h0, hm, hne⟩ := nz_head h
  have ef : firstN (ns.map fun n => n.fdiv (gcdL ns)) = (firstN ns).fdiv (gcdL ns) := by
    have e1 : (nz (ns.map fun n => n.fdiv (gcdL ns)))[0]? = some ((firstN ns).fdiv (gcdL ns)) := by
      rw [nz_map z, List.getElem?_map, h0]
      rfl
    obtain ⟨n, hn, hn0⟩ := h
    have e2 := (nz_head (ns := ns.map fun n => n.fdiv (gcdL ns)) ⟨_, List.mem_map.mpr ⟨n, hn, rfl⟩, fun q => hn0 ((z n hn).mp q)⟩).1
    exact Option.some.inj (e2.symm.trans e1)
  obtain ⟨k, e1, e2, _⟩ := dvd_fdiv gp (gcdL_dvd hm)
  refine ⟨?_, fun hp => ?_, fun hp => ?_⟩
  · exact ⟨_, List.mem_map.mpr ⟨firstN ns, hm, rfl⟩, fun q => hne ((z _ hm).mp q)⟩
  · rw [ef, e2] at hp
    have : ¬ firstN ns < 0 := by
      rw [e1]
      have := Int.mul_pos gp hp
      omega
    unfold plainI signed
    rw [if_neg this]
  · rw [ef, e2] at hp
    have : firstN ns < 0 := by
      have h1 : k ≤ 0 := by omega
      have h2 : firstN ns ≤ 0 := by
        rw [e1]
        exact Int.mul_nonpos_of_nonneg_of_nonpos (by omega) h1
      omega
    unfold plainI signed
    rw [if_pos this, List.map_map]
    refine List.map_congr_left fun n hn => ?_
    obtain ⟨k, _, e2, e3⟩ := dvd_fdiv gp (gcdL_dvd hn)
    show 0 - n.fdiv (gcdL ns) = n.fdiv (-gcdL ns)
    rw [e2, e3]
    omega
theorem gcd_scale (t : Int) : ∀ (ns : List Int) (c : Int), (ns.map fun n => t * n).foldl (fun c n => ((Nat.gcd c.natAbs n.natAbs : Nat) : Int)) ((t.natAbs : Int) * c) = (t.natAbs : Int) * ns.foldl (fun c n => ((Nat.gcd c.natAbs n.natAbs : Nat) : Int)) c
  | [], c => rfl
  | n :: ns, c => by
    rw [List.map_cons, List.foldl_cons, List.foldl_cons]
    have e : ((Nat.gcd ((t.natAbs : Int) * c).natAbs (t * n).natAbs : Nat) : Int) = (t.natAbs : Int) * ((Nat.gcd c.natAbs n.natAbs : Nat) : Int) := by
      rw [Int.natAbs_mul, Int.natAbs_mul, Int.natAbs_natCast, Nat.gcd_mul_left, Int.natCast_mul]
    rw [e]
    exact gcd_scale t ns _
theorem gcdL_scale (t : Int) (ns : List Int) : gcdL (ns.map fun n => t * n) = (t.natAbs : Int) * gcdL ns := by
  have := gcd_scale t ns 0
  rw [Int.mul_zero] at this
  exact this
theorem firstN_scale {t : Int} (ht : t ≠ 0) {ns : List Int} (h : ∃ n ∈ ns, n ≠ 0) : firstN (ns.map fun n => t * n) = t * firstN ns := by
  have z : ∀ n ∈ ns, t * n = 0 ↔ n = 0 := by
    intro n _
    constructor
    · intro e
      rcases Int.mul_eq_zero.mp e with e | e
      · exact absurd e ht
      · exact e
    · intro e
      rw [e, Int.mul_zero]
  obtain ⟨h0, _, _⟩ := nz_head h
  obtain ⟨n, hn, hn0⟩ := h
  have e1 : (nz (ns.map fun n => t * n))[0]? = some (t * firstN ns) := by
    rw [nz_map z, List.getElem?_map, h0]
    rfl
  have e2 := (nz_head (ns := ns.map fun n => t * n) ⟨_, List.mem_map.mpr ⟨n, hn, rfl⟩, fun q => hn0 ((z n hn).mp q)⟩).1
  exact Option.some.inj (e2.symm.trans e1)
theorem signed_scale {t : Int} (ht : t ≠ 0) {ns : List Int} (h : ∃ n ∈ ns, n ≠ 0) : signed (ns.map fun n => t * n) = t * signed ns := by
  have ef := firstN_scale ht h
  have fne := (nz_head h).2.2
  unfold signed
  rw [ef, gcdL_scale]
  by_cases tp : 0 < t
  · have e : (t.natAbs : Int) = t := by omega
    rw [e]
    by_cases fp : firstN ns < 0
    · rw [if_pos fp, if_pos (Int.mul_neg_of_pos_of_neg tp fp), Int.mul_neg]
    · have : ¬ t * firstN ns < 0 := by
        have := Int.mul_pos tp (show 0 < firstN ns by omega)
        omega
      rw [if_neg fp, if_neg this]
  · have tn : t < 0 := by omega
    have e : (t.natAbs : Int) = -t := by omega
    rw [e]
    by_cases fp : firstN ns < 0
    · have : ¬ t * firstN ns < 0 := by
        have := Int.mul_pos_of_neg_of_neg tn fp
        omega
      rw [if_pos fp, if_neg this, Int.neg_mul, Int.mul_neg]
    · have : t * firstN ns < 0 := Int.mul_neg_of_neg_of_pos tn (by omega)
      rw [if_neg fp, if_pos this, Int.neg_mul, Int.neg_neg]
theorem signed_ne {ns : List Int} (h : ∃ n ∈ ns, n ≠ 0) : signed ns ≠ 0 := by
  have := gcdL_pos h
  unfold signed
  split <;> omega
theorem signed_dvd {ns : List Int} {n : Int} (h : n ∈ ns) : signed ns ∣ n := by
  unfold signed
  split
  · exact Int.neg_dvd.mpr (gcdL_dvd h)
  · exact gcdL_dvd h
theorem plainI_scale {t : Int} (ht : t ≠ 0) {ns : List Int} (h : ∃ n ∈ ns, n ≠ 0) : plainI (ns.map fun n => t * n) = plainI ns := by
  unfold plainI
  rw [signed_scale ht h, List.map_map]
  refine List.map_congr_left fun n hn => ?_
  obtain ⟨k, hk⟩ := signed_dvd hn
  have c0 := signed_ne h
  show (t * n).fdiv (t * signed ns) = n.fdiv (signed ns)
  rw [hk, Int.mul_fdiv_cancel_left k c0, ← Int.mul_assoc]
  exact Int.mul_fdiv_cancel_left k (fun e => by
    rcases Int.mul_eq_zero.mp e with e | e
    · exact ht e
    · exact c0 e)
theorem plainI_back {ns : List Int} (h : ∃ n ∈ ns, n ≠ 0) : (plainI ns).map (fun n => signed ns * n) = ns := by
  unfold plainI
  rw [List.map_map]
  have : ∀ n ∈ ns, ((fun n => signed ns * n) ∘ fun n => n.fdiv (signed ns)) n = n := by
    intro n hn
    obtain ⟨k, hk⟩ := signed_dvd hn
    have c0 := signed_ne h
    show signed ns * n.fdiv (signed ns) = n
    rw [hk, Int.mul_fdiv_cancel_left k c0]
  conv => rhs; rw [← List.map_id ns]
  exact List.map_congr_left this
theorem plainI_nz {ns : List Int} (h : ∃ n ∈ ns, n ≠ 0) : ∃ n ∈ plainI ns, n ≠ 0 := by
  refine Classical.byContradiction fun no => ?_
  have all0 : ∀ m ∈ plainI ns, m = 0 := fun m hm => Classical.byContradiction fun z => no ⟨m, hm, z⟩
  obtain ⟨n, hn, h0⟩ := h
  have hb := plainI_back ⟨n, hn, h0⟩
  rw [← hb] at hn
  obtain ⟨m, hm, e⟩ := List.mem_map.mp hn
  rw [all0 m hm, Int.mul_zero] at e
  exact h0 e.symm
theorem plainI_told {ns : List Int} (h : ∃ n ∈ ns, n ≠ 0) : plainI (plainI ns) = plainI ns := by
  have e := plainI_scale (signed_ne h) (plainI_nz h)
  rw [plainI_back h] at e
  exact e.symm
theorem plainI_le {ns : List Int} (h : ∃ n ∈ ns, n ≠ 0) {b : Nat} (hb : ∀ n ∈ ns, n.natAbs < b) : ∀ m ∈ plainI ns, m.natAbs < b := by
  intro m hm
  unfold plainI at hm
  obtain ⟨n, hn, rfl⟩ := List.mem_map.mp hm
  obtain ⟨k, hk⟩ := signed_dvd hn
  have c0 := signed_ne h
  have e : n.fdiv (signed ns) = k := by
    rw [hk]
    exact Int.mul_fdiv_cancel_left k c0
  have := hb n hn
  rw [e]
  refine Nat.lt_of_le_of_lt ?_ this
  rw [hk, Int.natAbs_mul]
  exact Nat.le_mul_of_pos_left _ (Int.natAbs_pos.mpr c0)
theorem plainI_neg {ns : List Int} (h : ∃ n ∈ ns, n ≠ 0) : plainI (ns.map fun n => 0 - n) = plainI ns := by
  have e : (ns.map fun n => 0 - n) = ns.map fun n => -1 * n := List.map_congr_left fun n _ => by omega
  rw [e]
  exact plainI_scale (by decide) h
theorem plainI_len (ns : List Int) : (plainI ns).length = ns.length := List.length_map _
end VE

namespace VE
open PySem PySem.Spec PyProof.Rows L2 G0
noncomputable section
/-- a comprehension whose turns leave all as it was -/
theorem lc_pure {i : Nat} {t : M Bool} {e : M RV} {ρ : Rho} {f : D → Option D} (h0 : ρ[i]? = some none) : ∀ (ds : List D), (∀ d ∈ ds, turn (gNF i) t e d ρ = .ok (f d) (ρ.set i (some (.val d)))) → lcL (gNF i) t e [i] ds ρ = .ok (ds.filterMap f) ρ
  | [], _ => rfl
  | d :: ds, h => by
    have w : wipeE (ρ.set i (some (.val d))) [i] = ρ := by
      show (ρ.set i (some (.val d))).set i none = ρ
      rw [List.set_set]
      have : ρ[i]? = some none := h0
      exact List.ext_getElem? fun j => by
        rw [List.getElem?_set]
        split
        · rename_i e; subst e
          split
          · exact this.symm
          · rename_i z
            rw [List.getElem?_eq_none (by omega)] at this
            cases this
        · rfl
    have ih := lc_pure (f := f) h0 ds fun x hx => h x (List.mem_cons_of_mem _ hx)
    have h1 := h d (List.mem_cons_self ..)
    show M.bind (noexc (turn (gNF i) t e d)) _ ρ = _
    have n1 : noexc (turn (gNF i) t e d) ρ = .ok (f d) (ρ.set i (some (.val d))) := by unfold noexc; rw [h1]
    rw [bind_ok n1]
    show M.bind (lcL (gNF i) t e [i] ds) _ (wipeE _ [i]) = _
    rw [w, bind_ok ih, List.filterMap_cons]
    cases f d <;> rfl
theorem fm_some {f : D → Option D} {g : Int → Int} (h : ∀ n, f (.int n) = some (.int (g n))) : ∀ ns : List Int, (ns.map D.int).filterMap f = (ns.map g).map D.int
  | [] => rfl
  | n :: ns => by rw [List.map_cons, List.filterMap_cons, h]; exact congrArg _ (fm_some h ns)
def intOf : D → Int
  | .int n => n
  | _ => 0
theorem nz_fmD : ∀ ns : List Int, (ns.map D.int).filterMap (fun d => if intOf d ≠ 0 then some d else none) = (nz ns).map D.int
  | [] => rfl
  | n :: ns => by
    rw [List.map_cons, List.filterMap_cons, nz_fmD ns]
    unfold nz
    rw [List.filter_cons]
    by_cases h : n = 0
    · subst h; rfl
    · rw [if_pos (show intOf (.int n) ≠ 0 from h), if_pos (decide_eq_true h)]; rfl
theorem divOk_of {j : Int} (h0 : j ≠ 0) (h : j.natAbs < 2037035976334486086268445688409378161051468393665936250636140449354381299763336706183397377) : divOk j = true := by
  unfold divOk
  refine decide_eq_true ⟨h0, ?_⟩
  have := log2_le (x := j) (k := 1000) (Nat.lt_of_lt_of_le h (by decide))
  omega
theorem opFdiv_ok {i j : Int} (h : divOk j = true) : opFdiv (.int i) (.int j) = some (.val (.int (i.fdiv j))) := by
  unfold opFdiv
  exact if_pos h
theorem opLt_int {i j : Int} : opLt (.int i) (.int j) = some (.val (.bl (decide (i < j)))) := rfl
theorem opGt_int {i j : Int} : opGt (.int i) (.int j) = some (.val (.bl (decide (j < i)))) := rfl
theorem opNeg_int {i : Int} : opNeg (.int i) = some (.val (.int (-i))) := rfl
theorem for_cons {g : RV → M Unit} {body : M Flow} {d : D} {ds : List D} {ρ ρ1 ρ2 : Rho} (h1 : g (.val d) ρ = .ok () ρ1) (h2 : body ρ1 = .ok .nx ρ2) : forL g body (d :: ds) ρ = forL g body ds ρ2 := by
  show M.bind (g (.val d)) _ ρ = _
  rw [bind_ok h1]
  show (match body ρ1 with
    | .ok .nx ρ' => forL g body ds ρ'
    | .ok .ct ρ' => forL g body ds ρ'
    | .ok .bk ρ' => .ok .nx ρ'
    | .ok (.rt r) ρ' => .ok (.rt r) ρ'
    | .exc C fs ρ' => .exc C fs ρ'
    | .bad => .bad) = _
  rw [h2]
theorem for_ok {it : M (List D)} {g : RV → M Unit} {body : M Flow} {ds : List D} {ρ ρ1 : Rho} {r : Res Flow} (h1 : it ρ = .ok ds ρ1) (h2 : forL g body ds ρ1 = r) : sFor it g body ρ = r := by
  unfold sFor
  rw [bind_ok h1]
  exact h2
theorem mLC_ok {it : M (List D)} {g : RV → M Unit} {t : M Bool} {e : M RV} {vs : List Nat} {ds l : List D} {ρ ρ1 ρ2 : Rho} (h1 : it ρ = .ok ds ρ1) (h2 : lcL g t e vs ds (wipeE ρ1 vs) = .ok l ρ2) : mLC it g t e vs ρ = .ok (.own (.lst l)) (unwipe ρ1 ρ2 vs) := by
  unfold mLC
  rw [bind_ok h1]
  show (match lcL g t e vs ds (wipeE ρ1 vs) with
    | .ok l ρ => Res.ok (RV.own (Ob.lst l)) (unwipe ρ1 ρ vs)
    | _ => .bad) = _
  rw [h2]
theorem it_ok {f : M RV} {ρ ρ1 : Rho} {r : RV} {t : Bool} {xs : List D} (h : f ρ = .ok r ρ1) (hr : r = .val (sq t xs)) : mIt f ρ = .ok xs ρ1 := by
  subst hr
  unfold mIt
  rw [bind_ok h]
  exact finI_sq
theorem ret_ok {f : M RV} {ρ ρ1 ρ2 : Rho} {r r2 : RV} (h : f ρ = .ok r ρ1) (h2 : moveR r ρ1 = .ok r2 ρ2) : sRet f ρ = .ok (.rt r2) ρ2 := by
  unfold sRet
  rw [bind_ok h, bind_ok h2]
  rfl
theorem if_ok {c : M Bool} {f g : M Flow} {ρ ρ1 : Rho} {b : Bool} {r : Res Flow} (h : c ρ = .ok b ρ1) (h2 : (if b = true then f else g) ρ1 = r) : sIf c f g ρ = r := by
  unfold sIf
  rw [bind_ok h]
  exact h2
theorem B_ok {f : M RV} {ρ ρ1 : Rho} {b : Bool} (h : f ρ = .ok (.val (.bl b)) ρ1) : mB f ρ = .ok b ρ1 := by
  unfold mB
  rw [bind_ok h]
  rfl
theorem rt_of {m : M Flow} {ρ ρ' : Rho} {r : RV} (h : m ρ = .ok (.rt r) ρ') : rtF (m ρ) = some r := by rw [h]; rfl
/-! divisor, plain -/
theorem div_loop (s0 : Option Slot) : ∀ (ns : List Int) (c : Int) (x : Option Slot), ∃ y, forL (gNF 2) (sAsg (mC bGcd (mCons (mPlF 1) (mCons (mPlF 2) mNil))) (gNF 1)) (ns.map D.int) [s0, some (.val (.int c)), x] = .ok .nx [s0, some (.val (.int (ns.foldl (fun c n => ((Nat.gcd c.natAbs n.natAbs : Nat) : Int)) c))), y]
  | [], c, x => ⟨x, rfl⟩
  | n :: ns, c, x => by
    obtain ⟨y, h⟩ := div_loop s0 ns ((Nat.gcd c.natAbs n.natAbs : Nat) : Int) (some (.val (.int n)))
    refine ⟨y, ?_⟩
    rw [List.map_cons, List.foldl_cons, ← h]
    exact for_cons (ρ1 := [s0, some (.val (.int c)), some (.val (.int n))]) rfl rfl
theorem ret_divisor {t : Bool} {ns : List Int} : Ret F_divisor [.val (sq t (ns.map D.int))] (.val (.int (gcdL ns))) := by
  obtain ⟨y, h⟩ := div_loop (some (.val (sq t (ns.map D.int)))) ns 0 none
  refine ret_of (rt_of (seq_nx (asg_val (f := mVal (.int 0)) rfl rfl) (seq_nx (for_ok (it_ok (f := mPlF 0) rfl rfl) h) (ret_ok rfl rfl))))
theorem ret_plain {t : Bool} {ns : List Int} (h : ∃ n ∈ ns, n ≠ 0) (hb : ∀ n ∈ ns, n.natAbs < 2037035976334486086268445688409378161051468393665936250636140449354381299763336706183397377) : Ret F_plain [.val (sq t (ns.map D.int))] (.own (.lst ((plainI ns).map D.int))) := by
  obtain ⟨ρ1, h1⟩ := (ret_divisor (t := t) (ns := ns)).ex
  obtain ⟨f0, fm, fne⟩ := nz_head h
  have gp := gcdL_pos h
  have gb : (gcdL ns).natAbs < 2037035976334486086268445688409378161051468393665936250636140449354381299763336706183397377 := by
    obtain ⟨n, hn, n0⟩ := h
    exact Nat.lt_of_le_of_lt (gcdL_le hn n0) (hb n hn)
  have a0 : L2.atI ((nz ns).map D.int) 0 = some (.int (firstN ns)) := by
    cases q : nz ns with
    | nil => rw [q] at f0; cases f0
    | cons a l =>
      rw [q] at f0
      cases f0
      exact at0
  have l1 := lc_pure (i := 3) (t := mB (mOp opNe (mPlF 3) (mVal (.int 0)))) (e := mPlF 3) (ρ := [some (.val (sq t (ns.map D.int))), some (.val (.int (gcdL ns))), none, none]) (f := fun d => if intOf d ≠ 0 then some d else none) rfl (ns.map D.int) (fun d hd => by
    obtain ⟨n, hn, rfl⟩ := List.mem_map.mp hd
    by_cases z : n = 0
    · simp [Ob.d, sSeq, sNx, sIf, sAsg, sExp, sRet, moveR, M.bind, M.ret, mVal, mPlF, lookF_eq, setF_eq, gNF, gCons, gNil, set1, hold, cont, conts, mOp, fin2, mUn, fin1, mC, finC, mCons, mNil, mTup, mLst, settle, mB, finB, mT, finT, mNotT, mAndT, mOrT, mNotV, mAndV, mOrV, mIf, truth, mLC, lcL, turn, noexc, wipeE, unwipe, tt1, mIt, finI_sq, finI_lst, finI_tup, finI_own, mZip, finZ, zipD, mZip3, finZ3, zip3D, seqD_sq, seqD_lst, seqD_tup, mCall, pre, runF, lent, mkArgs, obAt, backE, Slot.put, rB, rI', opAdd, opSub, opIx_sq, opIx_lst, opIx_tup, at0, at1, at2, bLen_sq, bLen_lst, bLen_tup, isi_sq, bList_sq, bTuple_sq, bList_lst, bList_tup, bTuple_lst, bTuple_tup, intsD, boolsD, rtF, szOk, sizeLine, opNe_int, z, intOf]
    · simp [Ob.d, sSeq, sNx, sIf, sAsg, sExp, sRet, moveR, M.bind, M.ret, mVal, mPlF, lookF_eq, setF_eq, gNF, gCons, gNil, set1, hold, cont, conts, mOp, fin2, mUn, fin1, mC, finC, mCons, mNil, mTup, mLst, settle, mB, finB, mT, finT, mNotT, mAndT, mOrT, mNotV, mAndV, mOrV, mIf, truth, mLC, lcL, turn, noexc, wipeE, unwipe, tt1, mIt, finI_sq, finI_lst, finI_tup, finI_own, mZip, finZ, zipD, mZip3, finZ3, zip3D, seqD_sq, seqD_lst, seqD_tup, mCall, pre, runF, lent, mkArgs, obAt, backE, Slot.put, rB, rI', opAdd, opSub, opIx_sq, opIx_lst, opIx_tup, at0, at1, at2, bLen_sq, bLen_lst, bLen_tup, isi_sq, bList_sq, bTuple_sq, bList_lst, bList_tup, bTuple_lst, bTuple_tup, intsD, boolsD, rtF, szOk, sizeLine, opNe_int, z, intOf])
  rw [nz_fmD] at l1
  have l2 : ∀ (c x : Option Slot) (s : Int), divOk s = true → lcL (gNF 3) tt1 (mOp opFdiv (mPlF 3) (mPlF 1)) [3] (ns.map D.int) [c, some (.val (.int s)), x, none] = .ok ((ns.map fun n => n.fdiv s).map D.int) [c, some (.val (.int s)), x, none] := fun c x s ds => by
    rw [← fm_some (f := fun d => some (.int ((intOf d).fdiv s))) (g := fun n => n.fdiv s) (fun _ => rfl)]
    refine lc_pure rfl _ fun d hd => ?_
    obtain ⟨n, hn, rfl⟩ := List.mem_map.mp hd
    have := opFdiv_ok (i := n) ds
    simp [Ob.d, sSeq, sNx, sIf, sAsg, sExp, sRet, moveR, M.bind, M.ret, mVal, mPlF, lookF_eq, setF_eq, gNF, gCons, gNil, set1, hold, cont, conts, mOp, fin2, mUn, fin1, mC, finC, mCons, mNil, mTup, mLst, settle, mB, finB, mT, finT, mNotT, mAndT, mOrT, mNotV, mAndV, mOrV, mIf, truth, mLC, lcL, turn, noexc, wipeE, unwipe, tt1, mIt, finI_sq, finI_lst, finI_tup, finI_own, mZip, finZ, zipD, mZip3, finZ3, zip3D, seqD_sq, seqD_lst, seqD_tup, mCall, pre, runF, lent, mkArgs, obAt, backE, Slot.put, rB, rI', opAdd, opSub, opIx_sq, opIx_lst, opIx_tup, at0, at1, at2, bLen_sq, bLen_lst, bLen_tup, isi_sq, bList_sq, bTuple_sq, bList_lst, bList_tup, bTuple_lst, bTuple_tup, intsD, boolsD, rtF, szOk, sizeLine, this, intOf]
  have d1 := divOk_of (j := gcdL ns) (by omega) gb
  have d2 := divOk_of (j := -gcdL ns) (by omega) (by omega)
  have s1 := asg_val (f := mCall 1 [false] F_divisor (mCons (mPlF 0) mNil)) (g := gNF 1) (ρ := [some (.val (sq t (ns.map D.int))), none, none, none]) (call_val rfl rfl h1 rfl) rfl
  have s2 := asg_val (g := gNF 2) (op_ok (op := opIx) (mLC_ok (it := mIt (mPlF 0)) (g := gNF 3) (ρ := [some (.val (sq t (ns.map D.int))), some (.val (.int (gcdL ns))), none, none]) (it_ok (f := mPlF 0) rfl rfl) l1) (g := mVal (.int 0)) rfl rfl rfl (r := .val (.int (firstN ns))) (show (L2.atI ((nz ns).map D.int) 0).map RV.val = _ by rw [a0]; rfl)) rfl
  refine ret_of ?_
  by_cases sg : firstN ns < 0
  · have l3 := l2 (some (.val (sq t (ns.map D.int)))) (some (.val (.int (firstN ns)))) (-gcdL ns) d2
    have e : plainI ns = ns.map fun n => n.fdiv (-gcdL ns) := by unfold plainI signed; rw [if_pos sg]
    rw [e]
    refine rt_of (seq_nx s1 (seq_nx s2 (seq_nx (if_ok (B_ok (b := true) (op_ok (f := mPlF 2) (g := mVal (.int 0)) rfl rfl rfl rfl (show some (RV.val (D.bl (decide (firstN ns < 0)))) = _ by rw [decide_eq_true sg]))) (asg_val (f := mUn opNeg (mPlF 1)) rfl rfl)) (ret_ok (mLC_ok (it_ok (f := mPlF 0) rfl rfl) l3) rfl))))
  · have l3 := l2 (some (.val (sq t (ns.map D.int)))) (some (.val (.int (firstN ns)))) (gcdL ns) d1
    have e : plainI ns = ns.map fun n => n.fdiv (gcdL ns) := by unfold plainI signed; rw [if_neg sg]
    rw [e]
    refine rt_of (seq_nx s1 (seq_nx s2 (seq_nx (if_ok (B_ok (b := false) (op_ok (f := mPlF 2) (g := mVal (.int 0)) rfl rfl rfl rfl (show some (RV.val (D.bl (decide (firstN ns < 0)))) = _ by rw [decide_eq_false sg]))) rfl) (ret_ok (mLC_ok (it_ok (f := mPlF 0) rfl rfl) l3) rfl))))
end
end VE

namespace VE
open PySem PySem.Spec PyProof.Rows L2 G0
noncomputable section
section
variable {n : Nat} {ks : List Bool} {G : Fn} {f : M RV} {g fs : M (List RV)} {ρ ρ1 ρ2 ρ' : Rho} {rs : List RV} {ds : List D} {r : RV} {o o' : Ob}
theorem cons_ok (h1 : f ρ = .ok r ρ1) (h2 : g ρ1 = .ok rs ρ2) : mCons f g ρ = .ok (hold r :: rs) ρ2 := by
  unfold mCons
  rw [bind_ok h1, bind_ok h2]
  rfl
theorem lst_ok (h1 : fs ρ = .ok rs ρ1) (h2 : settle rs ρ1 = .ok ds ρ2) (hz : szOk ds.length = true) : mLst fs ρ = .ok (.own (.lst ds)) ρ2 := by
  unfold mLst
  rw [bind_ok h1, bind_ok h2]
  exact if_pos hz
theorem tup_ok (h1 : fs ρ = .ok rs ρ1) (h2 : settle rs ρ1 = .ok ds ρ2) (hz : szOk ds.length = true) : mTup fs ρ = .ok (.val (.tup ds)) ρ2 := by
  unfold mTup
  rw [bind_ok h1, bind_ok h2]
  exact if_pos hz
theorem mkArgs_inl (ρ : Rho) : ∀ ds : List D, mkArgs ρ (ds.map .inl) = some (ds.map .val)
  | [] => rfl
  | d :: ds => by
    show (mkArgs ρ (ds.map .inl)).map _ = _
    rw [mkArgs_inl ρ ds]
    rfl
theorem lent_inl : ∀ ds : List D, lent (ds.map .inl) = []
  | [] => rfl
  | d :: ds => lent_inl ds
theorem backE_inl (ρ ρ' : Rho) : ∀ (ds : List D) (j : Nat), backE ρ (ds.map .inl) j ρ' = some ρ
  | [], _ => rfl
  | d :: ds, j => backE_inl ρ ρ' ds (j + 1)
theorem run_data (hG : G (ds.map .val) = .ok r ρ') (np : noPl r = true) : runF ds.length G (ds.map .inl) ρ = .ok r ρ := by
  unfold runF
  rw [lent_inl, if_pos ⟨List.nodup_nil, List.length_map _⟩, mkArgs_inl]
  dsimp only
  rw [hG]
  cases r with
  | pl i => cases np
  | val d => dsimp only; rw [backE_inl]
  | own o => dsimp only; rw [backE_inl]
theorem call_gen (h1 : fs ρ = .ok rs ρ1) (h2 : pre ks rs ρ1 = .ok (ds.map .inl) ρ2) (hG : G (ds.map .val) = .ok r ρ') (np : noPl r = true) (hn : n = ds.length) : mCall n ks G fs ρ = .ok r ρ2 := by
  subst hn
  unfold mCall
  rw [bind_ok h1, bind_ok h2, run_data hG np]
theorem callK_gen {π : List Nat} {es : List D} (h1 : fs ρ = .ok rs ρ1) (h2 : pre ks rs ρ1 = .ok (es.map .inl) ρ2) (hl : es.length = π.length) (he : (π.filterMap fun i => (es.map (Sum.inl (β := Nat)))[i]?) = ds.map .inl) (hG : G (ds.map .val) = .ok r ρ') (np : noPl r = true) (hn : n = ds.length) : mCallK n π ks G fs ρ = .ok r ρ2 := by
  subst hn
  unfold mCallK
  rw [bind_ok h1, bind_ok h2, if_pos (by rw [List.length_map]; exact hl), he, run_data hG np]
/-- a call that is lent the pot at slot 0 -/
theorem callP (h1 : fs ρ = .ok rs ρ1) (h2 : pre ks rs ρ1 = .ok (.inr 0 :: ds.map .inl) ρ2) (h0 : ρ2[0]? = some (some (.par o))) (hG : G (.par o :: ds.map .val) = .ok r (some (.par o') :: ρ')) (np : noPl r = true) (hn : n = ds.length + 1) : mCall n ks G fs ρ = .ok r (ρ2.set 0 (some (.par o'))) := by
  subst hn
  unfold mCall
  rw [bind_ok h1, bind_ok h2]
  have l1 : lent (.inr 0 :: ds.map .inl) = [0] := by
    show 0 :: lent (ds.map .inl) = _
    rw [lent_inl]
  have m1 : mkArgs ρ2 (.inr 0 :: ds.map .inl) = some (.par o :: ds.map .val) := by
    have ob : obAt ρ2 0 = some o := by unfold obAt; rw [h0]
    show (match obAt ρ2 0, mkArgs ρ2 (ds.map .inl) with
      | some o, some s => some (Slot.par o :: s)
      | _, _ => none) = _
    rw [ob, mkArgs_inl]
  have b1 : backE ρ2 (.inr 0 :: ds.map .inl) 0 (some (.par o') :: ρ') = some (ρ2.set 0 (some (.par o'))) := by
    rw [backE]
    simp only [List.getElem?_cons_zero, h0]
    exact backE_inl _ _ ds 1
  unfold runF
  rw [l1, if_pos ⟨by simp, by simp⟩, m1]
  dsimp only
  rw [hG]
  cases r with
  | pl i => cases np
  | val d => dsimp only; rw [b1]
  | own o => dsimp only; rw [b1]
theorem exp_ok (h : f ρ = .ok r ρ1) : sExp f ρ = .ok .nx ρ1 := by
  unfold sExp
  rw [bind_ok h]
  rfl
theorem C_ok {c : List D → Option RV} (h : fs ρ = .ok rs ρ1) (h2 : conts rs ρ1 = some ds) (h3 : c ds = some r) : mC c fs ρ = .ok r ρ1 := by
  unfold mC
  rw [bind_ok h]
  unfold finC
  simp only [h2, h3]
end
/-! ### tables -/
def M3.list (T : M3) : List Int := [T.a.x, T.a.y, T.a.z, T.b.x, T.b.y, T.b.z, T.c.x, T.c.y, T.c.z]
def P3.list (p : P3) : List Int := [p.x, p.y, p.z]
def P3.over (p : P3) (s : Int) : P3 := ⟨p.x.fdiv s, p.y.fdiv s, p.z.fdiv s⟩
def plainP (p : P3) : P3 := p.over (signed p.list)
def plainT (T : M3) : M3 := ⟨T.a.over (signed T.list), T.b.over (signed T.list), T.c.over (signed T.list)⟩
def tr3 (T : M3) : M3 := ⟨⟨T.a.x, T.b.x, T.c.x⟩, ⟨T.a.y, T.b.y, T.c.y⟩, ⟨T.a.z, T.b.z, T.c.z⟩⟩
def adj3 (T : M3) : M3 := tr3 ⟨cross3 T.b T.c, cross3 T.c T.a, cross3 T.a T.b⟩
def mul3 (A B : M3) : M3 := ⟨⟨dot3 A.a (tr3 B).a, dot3 A.a (tr3 B).b, dot3 A.a (tr3 B).c⟩, ⟨dot3 A.b (tr3 B).a, dot3 A.b (tr3 B).b, dot3 A.b (tr3 B).c⟩, ⟨dot3 A.c (tr3 B).a, dot3 A.c (tr3 B).b, dot3 A.c (tr3 B).c⟩⟩
def app3 (T : M3) (p : P3) : P3 := ⟨dot3 T.a p, dot3 T.b p, dot3 T.c p⟩
def M3.nz (T : M3) : Prop := ∃ n ∈ T.list, n ≠ 0
def P3.nz (p : P3) : Prop := ∃ n ∈ p.list, n ≠ 0
theorem P3.le.all {p : P3} {b : Nat} (h : p.le b) : ∀ n ∈ p.list, n.natAbs ≤ b := by
  intro n hn
  simp only [P3.list, List.mem_cons, List.not_mem_nil, or_false] at hn
  rcases hn with rfl | rfl | rfl
  · exact h.1
  · exact h.2.1
  · exact h.2.2
theorem M3.le.all {T : M3} {b : Nat} (h : T.le b) : ∀ n ∈ T.list, n.natAbs ≤ b := by
  intro n hn
  simp only [M3.list, List.mem_cons, List.not_mem_nil, or_false] at hn
  rcases hn with rfl | rfl | rfl | rfl | rfl | rfl | rfl | rfl | rfl
  · exact h.1.1
  · exact h.1.2.1
  · exact h.1.2.2
  · exact h.2.1.1
  · exact h.2.1.2.1
  · exact h.2.1.2.2
  · exact h.2.2.1
  · exact h.2.2.2.1
  · exact h.2.2.2.2
section
variable {t t1 t2 t4 u u1 u2 u4 : Bool} {T S : M3} {p : P3}
end
end
end VE

namespace VE
open PySem PySem.Spec PyProof.Rows L2 G0
noncomputable section
section
variable {g : RV → M Unit} {t : M Bool} {e : M RV} {vs : List Nat} {d y : D} {ds l : List D} {ρ ρ1 ρ2 ρ3 ρ4 : Rho} {r : RV} {b : Bool}
theorem turn_ok (hg : g (.val d) ρ = .ok () ρ1) (ht : t ρ1 = .ok true ρ2) (he : e ρ2 = .ok r ρ3) (hs : set1 r ρ3 = .ok y ρ4) : turn g t e d ρ = .ok (some y) ρ4 := by
  unfold turn
  rw [bind_ok hg, bind_ok ht, if_pos rfl, bind_ok he, bind_ok hs]
  rfl
theorem lc_cons (h : turn g t e d ρ = .ok (some y) ρ1) (h2 : lcL g t e vs ds (wipeE ρ1 vs) = .ok l ρ2) : lcL g t e vs (d :: ds) ρ = .ok (y :: l) ρ2 := by
  have n1 : noexc (turn g t e d) ρ = .ok (some y) ρ1 := by unfold noexc; rw [h]
  show M.bind (noexc (turn g t e d)) _ ρ = _
  rw [bind_ok n1]
  show M.bind (lcL g t e vs ds) _ (wipeE _ vs) = _
  rw [bind_ok h2]
  rfl
theorem wh_true {c : M Bool} {body : M Flow} {n : Nat} (hc : c ρ = .ok true ρ1) (hb : body ρ1 = .ok .nx ρ2) : whL c body (n + 1) ρ = whL c body n ρ2 := by
  show M.bind c _ ρ = _
  rw [bind_ok hc, if_pos rfl]
  show (match body ρ1 with
      | .ok .nx ρ' => whL c body n ρ'
      | .ok .ct ρ' => whL c body n ρ'
      | .ok .bk ρ' => .ok .nx ρ'
      | .ok (.rt r) ρ' => .ok (.rt r) ρ'
      | .exc C fs ρ' => .exc C fs ρ'
      | .bad => .bad) = _
  rw [hb]
theorem wh_false {c : M Bool} {body : M Flow} {n : Nat} (hc : c ρ = .ok false ρ1) : whL c body (n + 1) ρ = .ok .nx ρ1 := by
  show M.bind c _ ρ = _
  rw [bind_ok hc]
  rfl
theorem mIf_ok {c : M Bool} {f g : M RV} {r : Res RV} (h : c ρ = .ok b ρ1) (h2 : (if b = true then f else g) ρ1 = r) : mIf c f g ρ = r := by
  unfold mIf
  rw [bind_ok h]
  exact h2
theorem notT_ok {f : M Bool} (h : f ρ = .ok b ρ1) : mNotT f ρ = .ok (!b) ρ1 := by
  unfold mNotT
  rw [bind_ok h]
  rfl
theorem T_ok {f : M RV} (h : f ρ = .ok (.val (.bl b)) ρ1) : mT f ρ = .ok b ρ1 := by
  unfold mT
  rw [bind_ok h]
  rfl
end
/-! ### points -/
section
variable {t t1 t2 t4 u u1 u2 u4 : Bool} {T S : M3} {p q : P3}
theorem ret_is_point (h : p.nz) : Ret F_is_point [.val (v3 t p)] (.val (.bl true)) := by
  obtain ⟨ρ1, h1⟩ := (ret_is_three (t := t) (p := p)).ex
  have h1 : F_is_three [.val (sq t [.int p.x, .int p.y, .int p.z])] = _ := h1
  have k : (!decide (p.x = 0) || (!decide (p.y = 0) || !decide (p.z = 0))) = true := by
    obtain ⟨n, hn, n0⟩ := h
    simp only [P3.list, List.mem_cons, List.not_mem_nil, or_false] at hn
    rcases hn with rfl | rfl | rfl <;> simp [n0]
  refine ret_of ?_
  simp [Ob.d, sSeq, sNx, sIf, sAsg, sExp, sRet, moveR, M.bind, M.ret, mVal, mPlF, lookF_eq, setF_eq, gNF, gCons, gNil, set1, hold, cont, conts, mOp, fin2, mUn, fin1, mC, finC, mCons, mNil, mTup, mLst, settle, mB, finB, mT, finT, mNotT, mAndT, mOrT, mNotV, mAndV, mOrV, mIf, truth, mLC, lcL, turn, noexc, wipeE, unwipe, tt1, mIt, finI_sq, finI_lst, finI_tup, finI_own, mZip, finZ, zipD, mZip3, finZ3, zip3D, seqD_sq, seqD_lst, seqD_tup, mCall, pre, runF, lent, mkArgs, obAt, backE, Slot.put, rB, rI', opAdd, opSub, opIx_sq, opIx_lst, opIx_tup, at0, at1, at2, bLen_sq, bLen_lst, bLen_tup, isi_sq, bList_sq, bTuple_sq, bList_lst, bList_tup, bTuple_lst, bTuple_tup, intsD, boolsD, rtF, szOk, sizeLine, m_is_point, v3, h1, opNe_int, bAny]
  simpa using k
theorem ret_told_point (h : p.nz) (hb : p.le 2037035976334486086268445688409378161051468393665936250636140449354381299763336706183397376) : Ret F_told_point [.val (v3 t p)] (.val (v3 false (plainP p))) := by
  obtain ⟨ρ1, h1⟩ := (ret_is_point (t := t) h).ex
  obtain ⟨ρ2, h2⟩ := (ret_plain (t := t) (ns := p.list) h fun n hn => by have := hb.all n hn; omega).ex
  exact ret_of (rt_of (seq_nx (if_ok (notT_ok (T_ok (call_gen (ds := [v3 t p]) rfl rfl h1 rfl rfl))) rfl) (ret_ok (C_ok (cons_ok (call_gen (ds := [v3 t p]) rfl rfl h2 rfl rfl) rfl) rfl rfl) rfl)))
theorem app_le {a b : Nat} (hT : T.le a) (hp : p.le b) : (app3 T p).le (3 * (a * b)) := ⟨dot_le hT.1 hp, dot_le hT.2.1 hp, dot_le hT.2.2 hp⟩
theorem over_le {b : Nat} (hp : p.nz) (h : p.le b) : (plainP p).le b := by
  have k := plainI_le hp (b := b + 1) fun n hn => Nat.lt_succ_of_le (h.all n hn)
  have e : plainI p.list = (plainP p).list := rfl
  rw [e] at k
  exact ⟨Nat.le_of_lt_succ (k _ (by simp [P3.list])), Nat.le_of_lt_succ (k _ (by simp [P3.list])), Nat.le_of_lt_succ (k _ (by simp [P3.list]))⟩
theorem overT_le {b : Nat} (hp : T.nz) (h : T.le b) : (plainT T).le b := by
  have k := plainI_le hp (b := b + 1) fun n hn => Nat.lt_succ_of_le (h.all n hn)
  have e : plainI T.list = (plainT T).list := rfl
  rw [e] at k
  exact ⟨⟨Nat.le_of_lt_succ (k _ (by simp [M3.list])), Nat.le_of_lt_succ (k _ (by simp [M3.list])), Nat.le_of_lt_succ (k _ (by simp [M3.list]))⟩, ⟨Nat.le_of_lt_succ (k _ (by simp [M3.list])), Nat.le_of_lt_succ (k _ (by simp [M3.list])), Nat.le_of_lt_succ (k _ (by simp [M3.list]))⟩, ⟨Nat.le_of_lt_succ (k _ (by simp [M3.list])), Nat.le_of_lt_succ (k _ (by simp [M3.list])), Nat.le_of_lt_succ (k _ (by simp [M3.list]))⟩⟩
theorem ret_led (hT : T.le 1267650600228229401496703205376) (d : det3 T ≠ 0) (hp : p.nz) (hb : p.le 1267650600228229401496703205376) (nz : (app3 T (plainP p)).nz) : Ret F_led [.val (t3 t t1 t2 t4 T), .val (v3 u p)] (.val (v3 false (plainP (app3 T (plainP p))))) := by
  have pb := over_le hp hb
  obtain ⟨ρ1, h1⟩ := (ret_check_table (t := t) (t1 := t1) (t2 := t2) (t4 := t4) hT d).ex
  obtain ⟨ρ2, h2⟩ := (ret_told_point (t := u) hp (hb.mono (by decide))).ex
  obtain ⟨ρ3, h3⟩ := (ret_dot (t := t1) (u := false) hT.1 pb).ex
  obtain ⟨ρ4, h4⟩ := (ret_dot (t := t2) (u := false) hT.2.1 pb).ex
  obtain ⟨ρ5, h5⟩ := (ret_dot (t := t4) (u := false) hT.2.2 pb).ex
  obtain ⟨ρ6, h6⟩ := (ret_told_point (t := true) nz ((app_le hT pb).mono (by decide))).ex
  refine ret_of (rt_of (seq_nx (exp_ok (call_gen (ds := [t3 t t1 t2 t4 T]) rfl rfl h1 rfl rfl)) (seq_nx (asg_val (call_gen (ds := [v3 u p]) rfl rfl h2 rfl rfl) rfl) (ret_ok (call_gen (ds := [v3 true (app3 T (plainP p))]) (cons_ok (mLC_ok (it_ok (f := mPlF 0) rfl rfl) (lc_cons (turn_ok (e := mCall 2 [false, false] F_dot (mCons (mPlF 3) (mCons (mPlF 2) mNil))) rfl rfl (call_gen (ds := [v3 t1 T.a, v3 false (plainP p)]) rfl rfl h3 rfl rfl) rfl)
    (lc_cons (turn_ok rfl rfl (call_gen (ds := [v3 t2 T.b, v3 false (plainP p)]) rfl rfl h4 rfl rfl) rfl) (lc_cons (turn_ok rfl rfl (call_gen (ds := [v3 t4 T.c, v3 false (plainP p)]) rfl rfl h5 rfl rfl) rfl) rfl)))) rfl) rfl h6 rfl rfl) rfl))))
theorem mul_le {a b : Nat} (hT : T.le a) (hS : S.le b) : (mul3 T S).le (3 * (a * b)) := by
  have c1 : (tr3 S).a.le b := ⟨hS.1.1, hS.2.1.1, hS.2.2.1⟩
  have c2 : (tr3 S).b.le b := ⟨hS.1.2.1, hS.2.1.2.1, hS.2.2.2.1⟩
  have c3 : (tr3 S).c.le b := ⟨hS.1.2.2, hS.2.1.2.2, hS.2.2.2.2⟩
  exact ⟨⟨dot_le hT.1 c1, dot_le hT.1 c2, dot_le hT.1 c3⟩, ⟨dot_le hT.2.1 c1, dot_le hT.2.1 c2, dot_le hT.2.1 c3⟩, ⟨dot_le hT.2.2 c1, dot_le hT.2.2 c2, dot_le hT.2.2 c3⟩⟩
end
end
end VE

namespace VE
open PySem PySem.Spec PyProof.Rows L2 G0
noncomputable section
theorem mIf_t {c : M Bool} {f g : M RV} {ρ ρ1 : Rho} {r : Res RV} (h : c ρ = .ok true ρ1) (h2 : f ρ1 = r) : mIf c f g ρ = r := mIf_ok h h2
theorem mIf_f {c : M Bool} {f g : M RV} {ρ ρ1 : Rho} {r : Res RV} (h : c ρ = .ok false ρ1) (h2 : g ρ1 = r) : mIf c f g ρ = r := mIf_ok h h2
section
variable {t t1 t2 t4 u u1 u2 u4 : Bool} {T S : M3} {p q : P3} {a b : Nat}
end
/-! ### the law's own gcd -/
theorem opMod_ok {i j : Int} (h : j ≠ 0) : opMod (.int i) (.int j) = some (.val (.int (i.fmod j))) := by
  unfold opMod
  exact if_pos (decide_eq_true h)
end
end VE

namespace VE
open PySem PySem.Spec PyProof.Rows L2 G0
noncomputable section
section
variable {t t1 t2 t4 u u1 u2 u4 : Bool} {T S : M3} {p q : P3} {a b : Nat}
end
end
end VE

namespace VE
open PySem PySem.Spec PyProof.Rows L2 G0
noncomputable section
theorem drawOk : DrawOk F__law_draw := fun a b n p h1 h2 => draw_ok p h1 h2 (by decide) (by decide) (by decide) (by decide)
def pds (p : P3) : List D := [.int p.x, .int p.y, .int p.z]
def ptE : M RV := mOp opSub (mCall 2 [true, false] F__law_draw (mCons (mPlF 0) (mCons (mOp opAdd (mOp opMul (mVal (.int 2)) (mPlF 1)) (mVal (.int 1))) mNil))) (mPlF 1)
section
variable {a b : Int} {m : Nat}
theorem pt_turn (hp : PotOk a b) (hm : m ≤ 1000) (k : D) : ∃ (x : Int) (a' b' : Int), PotOk a' b' ∧ x.natAbs ≤ m ∧
    turn (gNF 3) tt1 ptE k [some (.par (potO a b)), some (.val (.int (m : Int))), none, none] = .ok (some (.int x)) [some (.par (potO a' b')), some (.val (.int (m : Int))), none, some (.val k)] := by
  obtain ⟨d, a', b', ρ', hp', d0, d1, e⟩ := drawOk a b (2 * m + 1) hp (by omega) (by omega)
  refine ⟨d - m, a', b', hp', by omega, ?_⟩
  have ar : mOp opAdd (mOp opMul (mVal (.int 2)) (mPlF 1)) (mVal (.int 1)) [some (.par (potO a b)), some (.val (.int (m : Int))), none, some (.val k)] = .ok (.val (.int (2 * m + 1))) [some (.par (potO a b)), some (.val (.int (m : Int))), none, some (.val k)] :=
    op_ok (op_ok (f := mVal (.int 2)) (g := mPlF 1) (d1 := .int 2) (d2 := .int m) rfl rfl rfl rfl (opMul_of (a := 2) (b := 1000) (by decide) (by omega))) (g := mVal (.int 1)) rfl rfl rfl rfl
  exact turn_ok (ρ1 := [some (.par (potO a b)), some (.val (.int (m : Int))), none, some (.val k)]) rfl rfl (op_ok (callP (o := potO a b) (ds := [.int (2 * m + 1)]) (cons_ok (f := mPlF 0) rfl (cons_ok ar rfl)) rfl rfl e rfl rfl) (g := mPlF 1) rfl rfl rfl rfl) rfl
theorem any3 {p : P3} : bAny [.lst (pds p)] = some (.val (.bl (p.list.any fun n => n != 0))) := rfl
/-- what a value is, read -/
def Is (r : RV) (d : D) : Prop := r = .val d ∨ ∃ xs, d = .lst xs ∧ r = .own (.lst xs)
end
end
end VE

namespace VE
open PySem PySem.Spec PyProof.Rows L2 G0
noncomputable section
theorem Is.set {r : RV} {d : D} {ρ : Rho} (h : Is r d) : set1 r ρ = .ok d ρ := by
  rcases h with rfl | ⟨xs, rfl, rfl⟩ <;> rfl
theorem Is.np {r : RV} {d : D} (h : Is r d) : noPl r = true := by
  rcases h with rfl | ⟨xs, rfl, rfl⟩ <;> rfl
section
variable {a b : Int} {m : Nat}
theorem dr_sub {n c : Int} {tl : Rho} (hp : PotOk a b) (h1 : 0 < n) (h2 : n < 1073741824) : ∃ (d a' b' : Int), PotOk a' b' ∧ 0 ≤ d ∧ d < n ∧
    mOp opSub (mCall 2 [true, false] F__law_draw (mCons (mPlF 0) (mCons (mVal (.int n)) mNil))) (mVal (.int c)) (some (.par (potO a b)) :: tl) = .ok (.val (.int (d - c))) (some (.par (potO a' b')) :: tl) := by
  obtain ⟨d, a', b', ρ', hp', d0, d1, e⟩ := drawOk a b n hp h1 h2
  exact ⟨d, a', b', hp', d0, d1, op_ok (callP (o := potO a b) (ds := [.int n]) (cons_ok (f := mPlF 0) rfl (cons_ok (f := mVal (.int n)) rfl rfl)) rfl rfl e rfl rfl) (g := mVal (.int c)) rfl rfl rfl rfl⟩
theorem dr_is {n c : Int} {tl : Rho} (hp : PotOk a b) (h1 : 0 < n) (h2 : n < 1073741824) : ∃ (k : Bool) (a' b' : Int), PotOk a' b' ∧
    mB (mOp opEq (mCall 2 [true, false] F__law_draw (mCons (mPlF 0) (mCons (mVal (.int n)) mNil))) (mVal (.int c))) (some (.par (potO a b)) :: tl) = .ok k (some (.par (potO a' b')) :: tl) := by
  obtain ⟨d, a', b', ρ', hp', d0, d1, e⟩ := drawOk a b n hp h1 h2
  exact ⟨decide (d = c), a', b', hp', B_ok (op_ok (callP (o := potO a b) (ds := [.int n]) (cons_ok (f := mPlF 0) rfl (cons_ok (f := mVal (.int n)) rfl rfl)) rfl rfl e rfl rfl) (g := mVal (.int c)) rfl rfl rfl rfl)⟩
theorem dr_pick {xs : List D} {f : M RV} {tl : Rho} (hp : PotOk a b) (hx : 0 < xs.length) (hz : xs.length ≤ 1000000) (hf : f (some (.par (potO a b)) :: tl) = .ok (.own (.lst xs)) (some (.par (potO a b)) :: tl)) : ∃ (x : D) (a' b' : Int), PotOk a' b' ∧ x ∈ xs ∧
    mCall 2 [true, false] F__law_pick (mCons (mPlF 0) (mCons f mNil)) (some (.par (potO a b)) :: tl) = .ok (.val x) (some (.par (potO a' b')) :: tl) := by
  obtain ⟨x, a', b', ρ', p', mx, e⟩ := pick_ok drawOk (xs := xs) hp hx hz
  have e : F__law_pick (.par (potO a b) :: [D.lst xs].map .val) = .ok (.val x) (some (.par (potO a' b')) :: ρ') := e
  have h1 : mCons (mPlF 0) (mCons f mNil) (some (.par (potO a b)) :: tl) = .ok [.pl 0, .val (.lst xs)] (some (.par (potO a b)) :: tl) := cons_ok (f := mPlF 0) (r := .pl 0) rfl (cons_ok (g := mNil) hf rfl)
  have cc : mCall 2 [true, false] F__law_pick (mCons (mPlF 0) (mCons f mNil)) (some (.par (potO a b)) :: tl) = .ok (.val x) ((some (.par (potO a b)) :: tl).set 0 (some (.par (potO a' b')))) := callP h1 rfl rfl e rfl rfl
  exact ⟨x, a', b', p', mx, cc⟩
def tds (T : M3) : List D := [v3 true T.a, v3 true T.b, v3 true T.c]
theorem whole_det (T : M3) : dot3 (cross3 T.a T.b) T.c = det3 T := by
  unfold det3 dot3 cross3
  grind
end
end
end VE

namespace VE
open PySem PySem.Spec PyProof.Rows L2 G0
noncomputable section
def P3.smul (c : Int) (p : P3) : P3 := ⟨c * p.x, c * p.y, c * p.z⟩
def M3.smul (c : Int) (T : M3) : M3 := ⟨T.a.smul c, T.b.smul c, T.c.smul c⟩
section
variable {a b : Int}
/-- a row, times c -/
theorem row_hand {k : Bool} {r : P3} {c : Int} {s0 s1 s3 : Option Slot} (hr : r.le 1000) (hc : c.natAbs ≤ 3) : mLC (mIt (mPlF 4)) (gNF 5) tt1 (mOp opMul (mPlF 2) (mPlF 5)) [5] [s0, s1, some (.val (.int c)), s3, some (.val (v3 k r)), none] = .ok (.own (.lst (pds (r.smul c)))) [s0, s1, some (.val (.int c)), s3, some (.val (v3 k r)), none] := by
  have m1 := opMul_of hc hr.1
  have m2 := opMul_of hc hr.2.1
  have m3 := opMul_of hc hr.2.2
  have l : lcL (gNF 5) tt1 (mOp opMul (mPlF 2) (mPlF 5)) [5] (pds r) [s0, s1, some (.val (.int c)), s3, some (.val (v3 k r)), none] = .ok (pds (r.smul c)) [s0, s1, some (.val (.int c)), s3, some (.val (v3 k r)), none] :=
    lc_cons (turn_ok (ρ1 := [s0, s1, some (.val (.int c)), s3, some (.val (v3 k r)), some (.val (.int r.x))]) rfl rfl (op_ok (f := mPlF 2) (g := mPlF 5) rfl rfl rfl rfl m1) rfl)
    (lc_cons (turn_ok (ρ1 := [s0, s1, some (.val (.int c)), s3, some (.val (v3 k r)), some (.val (.int r.y))]) rfl rfl (op_ok (f := mPlF 2) (g := mPlF 5) rfl rfl rfl rfl m2) rfl)
    (lc_cons (turn_ok (ρ1 := [s0, s1, some (.val (.int c)), s3, some (.val (v3 k r)), some (.val (.int r.z))]) rfl rfl (op_ok (f := mPlF 2) (g := mPlF 5) rfl rfl rfl rfl m3) rfl) rfl))
  have q := mLC_ok (it := mIt (mPlF 4)) (g := gNF 5) (t := tt1) (e := mOp opMul (mPlF 2) (mPlF 5)) (vs := [5]) (ρ := [s0, s1, some (.val (.int c)), s3, some (.val (v3 k r)), none]) (ρ1 := [s0, s1, some (.val (.int c)), s3, some (.val (v3 k r)), none]) (it_ok (f := mPlF 4) rfl rfl) l
  exact q
end
end
end VE

namespace VE
open PySem PySem.Spec PyProof.Rows L2 G0
/-! ### the algebra -/
theorem P3.ext {p q : P3} (h1 : p.x = q.x) (h2 : p.y = q.y) (h3 : p.z = q.z) : p = q := by
  cases p; cases q; cases h1; cases h2; cases h3; rfl
theorem M3.ext {p q : M3} (h1 : p.a = q.a) (h2 : p.b = q.b) (h3 : p.c = q.c) : p = q := by
  cases p; cases q; cases h1; cases h2; cases h3; rfl
def one3 : M3 := ⟨⟨1, 0, 0⟩, ⟨0, 1, 0⟩, ⟨0, 0, 1⟩⟩
theorem app_adj (T : M3) (p : P3) : app3 (adj3 T) (app3 T p) = p.smul (det3 T) := by
  refine P3.ext ?_ ?_ ?_ <;> (unfold app3 adj3 tr3 det3 dot3 cross3 P3.smul; dsimp only; grind)
theorem adj_mul (T : M3) : mul3 (adj3 T) T = one3.smul (det3 T) := by
  refine M3.ext (P3.ext ?_ ?_ ?_) (P3.ext ?_ ?_ ?_) (P3.ext ?_ ?_ ?_) <;> (unfold mul3 adj3 tr3 det3 dot3 cross3 M3.smul P3.smul one3; dsimp only; grind)
theorem mul_adj (T : M3) : mul3 T (adj3 T) = one3.smul (det3 T) := by
  refine M3.ext (P3.ext ?_ ?_ ?_) (P3.ext ?_ ?_ ?_) (P3.ext ?_ ?_ ?_) <;> (unfold mul3 adj3 tr3 det3 dot3 cross3 M3.smul P3.smul one3; dsimp only; grind)
theorem adj_adj (T : M3) : adj3 (adj3 T) = T.smul (det3 T) := by
  refine M3.ext (P3.ext ?_ ?_ ?_) (P3.ext ?_ ?_ ?_) (P3.ext ?_ ?_ ?_) <;> (unfold adj3 tr3 det3 dot3 cross3 M3.smul P3.smul; dsimp only; grind)
theorem adj_smul (c : Int) (T : M3) : adj3 (T.smul c) = (adj3 T).smul (c * c) := by
  refine M3.ext (P3.ext ?_ ?_ ?_) (P3.ext ?_ ?_ ?_) (P3.ext ?_ ?_ ?_) <;> (unfold adj3 tr3 cross3 M3.smul P3.smul; dsimp only; grind)
theorem det_smul (c : Int) (T : M3) : det3 (T.smul c) = c * c * c * det3 T := by
  unfold det3 dot3 cross3 M3.smul P3.smul; dsimp only; grind
theorem mul_smul (c : Int) (A B : M3) : mul3 (A.smul c) B = (mul3 A B).smul c := by
  refine M3.ext (P3.ext ?_ ?_ ?_) (P3.ext ?_ ?_ ?_) (P3.ext ?_ ?_ ?_) <;> (unfold mul3 tr3 dot3 M3.smul P3.smul; dsimp only; grind)
theorem smul_mul (c : Int) (A B : M3) : mul3 A (B.smul c) = (mul3 A B).smul c := by
  refine M3.ext (P3.ext ?_ ?_ ?_) (P3.ext ?_ ?_ ?_) (P3.ext ?_ ?_ ?_) <;> (unfold mul3 tr3 dot3 M3.smul P3.smul; dsimp only; grind)
theorem app_smul (c : Int) (A : M3) (p : P3) : app3 (A.smul c) p = (app3 A p).smul c := by
  refine P3.ext ?_ ?_ ?_ <;> (unfold app3 dot3 M3.smul P3.smul; dsimp only; grind)
theorem smul_app (c : Int) (A : M3) (p : P3) : app3 A (p.smul c) = (app3 A p).smul c := by
  refine P3.ext ?_ ?_ ?_ <;> (unfold app3 dot3 P3.smul; dsimp only; grind)
theorem app_mul (A B : M3) (p : P3) : app3 (mul3 A B) p = app3 A (app3 B p) := by
  refine P3.ext ?_ ?_ ?_ <;> (unfold app3 mul3 tr3 dot3; dsimp only; grind)
theorem mul_mul (A B C : M3) : mul3 (mul3 A B) C = mul3 A (mul3 B C) := by
  refine M3.ext (P3.ext ?_ ?_ ?_) (P3.ext ?_ ?_ ?_) (P3.ext ?_ ?_ ?_) <;> (unfold mul3 tr3 dot3; dsimp only; grind)
theorem one_mul3 (A : M3) : mul3 one3 A = A := by
  refine M3.ext (P3.ext ?_ ?_ ?_) (P3.ext ?_ ?_ ?_) (P3.ext ?_ ?_ ?_) <;> (unfold mul3 tr3 dot3 one3; dsimp only; omega)
theorem mul_one3 (A : M3) : mul3 A one3 = A := by
  refine M3.ext (P3.ext ?_ ?_ ?_) (P3.ext ?_ ?_ ?_) (P3.ext ?_ ?_ ?_) <;> (unfold mul3 tr3 dot3 one3; dsimp only; omega)
theorem adj_mul3 (A B : M3) : adj3 (mul3 A B) = mul3 (adj3 B) (adj3 A) := by
  refine M3.ext (P3.ext ?_ ?_ ?_) (P3.ext ?_ ?_ ?_) (P3.ext ?_ ?_ ?_) <;> (unfold adj3 mul3 tr3 dot3 cross3; dsimp only; grind)
theorem det_mul3 (A B : M3) : det3 (mul3 A B) = det3 A * det3 B := by
  unfold det3 mul3 tr3 dot3 cross3; dsimp only; grind
end VE

namespace VE
open PySem PySem.Spec PyProof.Rows L2 G0
/-! ### the same data -/
theorem okR_of {d : D} (h : Fine (py d)) : okR d = true := by
  have := h.fit
  simp [okR, h.sh, h.nd, h.dep, this]
theorem log_of {x : Int} (h : x.natAbs ≤ 8192) : x.natAbs.log2 < 1920 := by
  have := log2_le (x := x) (k := 400) (Nat.lt_of_le_of_lt h (by decide))
  omega
theorem okR_v3 {t : Bool} {p : P3} (h : p.le 8192) : okR (v3 t p) = true := by
  refine okR_of ⟨?_, ?_, ?_, ?_⟩ <;> cases t <;> simp [v3, sq, py, pys, PyData.showable, PyData.showableAll, PyData.hasDict, PyData.hasDictAll, PyData.depth, PyData.depthAll, szD, szAll, log_of h.1, log_of h.2.1, log_of h.2.2]
theorem okR_t3 {t t1 t2 t4 : Bool} {T : M3} (h : T.le 8192) : okR (t3 t t1 t2 t4 T) = true := by
  refine okR_of ⟨?_, ?_, ?_, ?_⟩ <;> cases t <;> cases t1 <;> cases t2 <;> cases t4 <;> simp [t3, v3, sq, py, pys, PyData.showable, PyData.showableAll, PyData.hasDict, PyData.hasDictAll, PyData.depth, PyData.depthAll, szD, szAll, log_of h.1.1, log_of h.1.2.1, log_of h.1.2.2, log_of h.2.1.1, log_of h.2.1.2.1, log_of h.2.1.2.2, log_of h.2.2.1, log_of h.2.2.2.1, log_of h.2.2.2.2]
theorem eqQ_t3 {T : M3} : eqQ (t3 false false false false T) (t3 false false false false T) = some true := by
  simp [eqQ, t3, v3, sq, okF, eqF, eqLs]
theorem eqQ_v3 {p : P3} : eqQ (v3 false p) (v3 false p) = some true := by
  simp [eqQ, v3, sq, okF, eqF, eqLs]
/-! what is shown are plain texts -/
def Sk (s : Str) : Prop := PyData.strOk s = true
theorem Sk.app {a b : Str} (h1 : Sk a) (h2 : Sk b) : Sk (a ++ b) := by
  unfold Sk PyData.strOk at *
  have e : (a ++ b).cps = a.cps ++ b.cps := rfl
  rw [e, Array.all_append, h1, h2]
  rfl
theorem Sk.of (s : String) : Sk (Str.ofString s) := by
  unfold Sk PyData.strOk
  rw [Str.ofString_eq_toList]
  simp only [List.all_toArray, List.all_map, List.all_eq_true, Function.comp, decide_eq_true_eq]
  intro c _
  have := c.valid
  show c.toNat < 1114112
  unfold UInt32.isValidChar Nat.isValidChar at this
  have e : c.val.toNat = c.toNat := rfl
  rw [e] at this
  omega
theorem Sk.from : ∀ (ts : List Str) (k : Nat) (acc : Str), Sk acc → (∀ t ∈ ts, Sk t) → Sk (textFrom k acc ts)
  | [], _, _, h, _ => h
  | t :: ts, k, acc, h, ht => Sk.from ts (k + 1) _ ((h.app (Sk.of _)).app (ht t (List.mem_cons_self ..))) fun x hx => ht x (List.mem_cons_of_mem _ hx)
theorem Sk.list {ts : List Str} (h : ∀ t ∈ ts, Sk t) : Sk (listText ts) := (Sk.from ts 0 _ (Sk.of _) h).app (Sk.of _)
theorem Sk.join : ∀ ts : List Str, (∀ t ∈ ts, Sk t) → Sk (Str.join ", " ts)
  | [], _ => Sk.of ""
  | [x], h => h x (List.mem_cons_self ..)
  | x :: y :: r, h => ((h x (List.mem_cons_self ..)).app (Sk.of ", ")).app (Sk.join (y :: r) fun t ht => h t (List.mem_cons_of_mem _ ht))
theorem Sk.tuple {ts : List Str} (h : ∀ t ∈ ts, Sk t) : Sk (tupleText ts) := ((Sk.of _).app (Sk.join ts h)).app (Sk.of _)
theorem Sk.three {a b c : Str} (h1 : Sk a) (h2 : Sk b) (h3 : Sk c) : ∀ t ∈ [a, b, c], Sk t := by
  intro t ht
  simp only [List.mem_cons, List.not_mem_nil, or_false] at ht
  rcases ht with rfl | rfl | rfl <;> assumption
theorem Sk.v3 (t : Bool) (p : P3) : Sk (py (v3 t p)).shown := by
  have h := Sk.three (Sk.of (toString p.x)) (Sk.of (toString p.y)) (Sk.of (toString p.z))
  cases t
  · exact Sk.tuple h
  · exact Sk.list h
theorem Sk.t3 (t t1 t2 t4 : Bool) (T : M3) : Sk (py (t3 t t1 t2 t4 T)).shown := by
  have h := Sk.three (Sk.v3 t1 T.a) (Sk.v3 t2 T.b) (Sk.v3 t4 T.c)
  cases t
  · exact Sk.tuple h
  · exact Sk.list h
theorem eqQ_str {s : Str} (h : Sk s) : eqQ (.str s) (.str s) = some true := by
  have h : PyData.strOk s = true := h
  simp [eqQ, okF, eqG, okD, py, SeqAt.shaped, PyData.eqv, PyData.canLay0, PyData.depth, h]
theorem ne_of {d : D} (h : eqQ d d = some true) : opNe d d = some (.val (.bl false)) := by unfold opNe; rw [h]; rfl
theorem eq_of {d : D} (h : eqQ d d = some true) : opEq d d = some (.val (.bl true)) := by unfold opEq; rw [h]
end VE

namespace VE
open PySem PySem.Spec PyProof.Rows L2 G0
/-! ### the same point, the same table -/
theorem P3.zero_of {p : P3} (h : ¬ p.nz) : p.x = 0 ∧ p.y = 0 ∧ p.z = 0 := by
  refine ⟨Classical.byContradiction fun z => h ⟨_, ?_, z⟩, Classical.byContradiction fun z => h ⟨_, ?_, z⟩, Classical.byContradiction fun z => h ⟨_, ?_, z⟩⟩ <;> simp [P3.list]
theorem M3.nz_of {T : M3} (h : T.a.nz ∨ T.b.nz ∨ T.c.nz) : T.nz := by
  rcases h with ⟨n, hn, h0⟩ | ⟨n, hn, h0⟩ | ⟨n, hn, h0⟩ <;> refine ⟨n, ?_, h0⟩ <;> (simp only [P3.list, M3.list, List.mem_cons, List.not_mem_nil, or_false] at *; rcases hn with rfl | rfl | rfl <;> simp)
theorem M3.zero_of {T : M3} (h : ¬ T.nz) : (¬ T.a.nz) ∧ (¬ T.b.nz) ∧ ¬ T.c.nz := ⟨fun z => h (M3.nz_of (.inl z)), fun z => h (M3.nz_of (.inr (.inl z))), fun z => h (M3.nz_of (.inr (.inr z)))⟩
theorem P3.list_inj {p q : P3} (h : p.list = q.list) : p = q := by
  cases p; cases q
  simp only [P3.list, List.cons.injEq, and_true] at h
  obtain ⟨rfl, rfl, rfl⟩ := h
  rfl
theorem M3.list_inj {p q : M3} (h : p.list = q.list) : p = q := by
  obtain ⟨⟨_, _, _⟩, ⟨_, _, _⟩, ⟨_, _, _⟩⟩ := p
  obtain ⟨⟨_, _, _⟩, ⟨_, _, _⟩, ⟨_, _, _⟩⟩ := q
  simp only [M3.list, List.cons.injEq, and_true] at h
  obtain ⟨rfl, rfl, rfl, rfl, rfl, rfl, rfl, rfl, rfl⟩ := h
  rfl
theorem plainP_smul {c : Int} {p : P3} (hc : c ≠ 0) (h : p.nz) : plainP (p.smul c) = plainP p := P3.list_inj (plainI_scale hc h)
theorem plainT_smul {c : Int} {T : M3} (hc : c ≠ 0) (h : T.nz) : plainT (T.smul c) = plainT T := M3.list_inj (plainI_scale hc h)
theorem plainP_back {p : P3} (h : p.nz) : (plainP p).smul (signed p.list) = p := P3.list_inj (plainI_back h)
theorem plainT_back {T : M3} (h : T.nz) : (plainT T).smul (signed T.list) = T := M3.list_inj (plainI_back h)
theorem smul_smul3 (c d : Int) (p : P3) : (p.smul c).smul d = p.smul (c * d) := by
  refine P3.ext ?_ ?_ ?_ <;> (unfold P3.smul; dsimp only; grind)
theorem smul_smulT (c d : Int) (T : M3) : (T.smul c).smul d = T.smul (c * d) := M3.ext (smul_smul3 ..) (smul_smul3 ..) (smul_smul3 ..)
theorem one_smul3 (p : P3) : p.smul 1 = p := by
  refine P3.ext ?_ ?_ ?_ <;> (unfold P3.smul; dsimp only; omega)
theorem one_smulT (T : M3) : T.smul 1 = T := M3.ext (one_smul3 _) (one_smul3 _) (one_smul3 _)
def Pr (p q : P3) : Prop := ∃ c d : Int, c ≠ 0 ∧ d ≠ 0 ∧ p.smul c = q.smul d
def Tr (p q : M3) : Prop := ∃ c d : Int, c ≠ 0 ∧ d ≠ 0 ∧ p.smul c = q.smul d
theorem mul_ne {a b : Int} (ha : a ≠ 0) (hb : b ≠ 0) : a * b ≠ 0 := fun e => (Int.mul_eq_zero.mp e).elim ha hb
theorem Pr.refl (p : P3) : Pr p p := ⟨1, 1, by decide, by decide, rfl⟩
theorem Pr.symm {p q : P3} (h : Pr p q) : Pr q p := let ⟨c, d, hc, hd, e⟩ := h; ⟨d, c, hd, hc, e.symm⟩
theorem Pr.trans {p q r : P3} (h1 : Pr p q) (h2 : Pr q r) : Pr p r := by
  obtain ⟨c, d, hc, hd, e1⟩ := h1
  obtain ⟨f, g, hf, hg, e2⟩ := h2
  refine ⟨c * f, g * d, mul_ne hc hf, mul_ne hg hd, ?_⟩
  rw [← smul_smul3, e1, smul_smul3, Int.mul_comm d f, ← smul_smul3, e2, smul_smul3]
theorem Tr.refl (p : M3) : Tr p p := ⟨1, 1, by decide, by decide, rfl⟩
theorem Tr.symm {p q : M3} (h : Tr p q) : Tr q p := let ⟨c, d, hc, hd, e⟩ := h; ⟨d, c, hd, hc, e.symm⟩
theorem Tr.trans {p q r : M3} (h1 : Tr p q) (h2 : Tr q r) : Tr p r := by
  obtain ⟨c, d, hc, hd, e1⟩ := h1
  obtain ⟨f, g, hf, hg, e2⟩ := h2
  refine ⟨c * f, g * d, mul_ne hc hf, mul_ne hg hd, ?_⟩
  rw [← smul_smulT, e1, smul_smulT, Int.mul_comm d f, ← smul_smulT, e2, smul_smulT]
theorem Pr.smul {c : Int} (hc : c ≠ 0) (p : P3) : Pr (p.smul c) p := ⟨1, c, by decide, hc, one_smul3 _⟩
theorem Tr.smul {c : Int} (hc : c ≠ 0) (p : M3) : Tr (p.smul c) p := ⟨1, c, by decide, hc, one_smulT _⟩
theorem Pr.plain {p : P3} (h : p.nz) : Pr (plainP p) p := ⟨signed p.list, 1, signed_ne h, by decide, by rw [plainP_back h, one_smul3]⟩
theorem Tr.plain {p : M3} (h : p.nz) : Tr (plainT p) p := ⟨signed p.list, 1, signed_ne h, by decide, by rw [plainT_back h, one_smulT]⟩
theorem Pr.eq {p q : P3} (h : Pr p q) (hp : p.nz) (hq : q.nz) : plainP p = plainP q := by
  obtain ⟨c, d, hc, hd, e⟩ := h
  rw [← plainP_smul hc hp, e, plainP_smul hd hq]
theorem Tr.eq {p q : M3} (h : Tr p q) (hp : p.nz) (hq : q.nz) : plainT p = plainT q := by
  obtain ⟨c, d, hc, hd, e⟩ := h
  rw [← plainT_smul hc hp, e, plainT_smul hd hq]
theorem Tr.app {S T : M3} {p q : P3} (h : Tr S T) (h2 : Pr p q) : Pr (app3 S p) (app3 T q) := by
  obtain ⟨c, d, hc, hd, e1⟩ := h
  obtain ⟨f, g, hf, hg, e2⟩ := h2
  refine ⟨f * c, g * d, mul_ne hf hc, mul_ne hg hd, ?_⟩
  rw [← smul_smul3, ← smul_app, ← app_smul, e1, e2, app_smul, smul_app, smul_smul3]
theorem Tr.mul {S T A B : M3} (h : Tr S T) (h2 : Tr A B) : Tr (mul3 S A) (mul3 T B) := by
  obtain ⟨c, d, hc, hd, e1⟩ := h
  obtain ⟨f, g, hf, hg, e2⟩ := h2
  refine ⟨f * c, g * d, mul_ne hf hc, mul_ne hg hd, ?_⟩
  rw [← smul_smulT, ← smul_mul, ← mul_smul, e1, e2, mul_smul, smul_mul, smul_smulT]
theorem Tr.adj {S T : M3} (h : Tr S T) : Tr (adj3 S) (adj3 T) := by
  obtain ⟨c, d, hc, hd, e⟩ := h
  refine ⟨c * c, d * d, mul_ne hc hc, mul_ne hd hd, ?_⟩
  rw [← adj_smul, e, adj_smul]
/-! what is not 0 -/
theorem det_one : det3 one3 = 1 := rfl
theorem M3.nz_det {T : M3} (h : det3 T ≠ 0) : T.nz := by
  refine Classical.byContradiction fun z => h ?_
  obtain ⟨x, y, w⟩ := P3.zero_of (M3.zero_of z).1
  unfold det3 dot3
  rw [x, y, w]
  omega
theorem Tr.det {S T : M3} (h : Tr S T) (hd : det3 T ≠ 0) : det3 S ≠ 0 := by
  obtain ⟨c, d, hc, hd', e⟩ := h
  intro z
  have e2 := congrArg det3 e
  rw [det_smul, det_smul, z, Int.mul_zero] at e2
  exact mul_ne (mul_ne (mul_ne hd' hd') hd') hd e2.symm
theorem det_adj {T : M3} (h : det3 T ≠ 0) : det3 (adj3 T) ≠ 0 := by
  intro z
  have e := congrArg det3 (adj_mul T)
  rw [det_mul3, det_smul, z, det_one, Int.zero_mul] at e
  exact mul_ne (mul_ne (mul_ne h h) h) (by decide) e.symm
theorem det_mul_ne {S T : M3} (h : det3 S ≠ 0) (h2 : det3 T ≠ 0) : det3 (mul3 S T) ≠ 0 := by rw [det_mul3]; exact mul_ne h h2
theorem app_nz {T : M3} {p : P3} (h : det3 T ≠ 0) (hp : p.nz) : (app3 T p).nz := by
  refine Classical.byContradiction fun z => ?_
  obtain ⟨x, y, w⟩ := P3.zero_of z
  have e := app_adj T p
  obtain ⟨n, hn, h0⟩ := hp
  have e1 : ∀ q : P3, dot3 q (app3 T p) = 0 := fun q => by unfold dot3; rw [x, y, w]; omega
  have ex : det3 T * p.x = 0 := by rw [show det3 T * p.x = (p.smul (det3 T)).x from rfl, ← e]; exact e1 _
  have ey : det3 T * p.y = 0 := by rw [show det3 T * p.y = (p.smul (det3 T)).y from rfl, ← e]; exact e1 _
  have ez : det3 T * p.z = 0 := by rw [show det3 T * p.z = (p.smul (det3 T)).z from rfl, ← e]; exact e1 _
  simp only [P3.list, List.mem_cons, List.not_mem_nil, or_false] at hn
  rcases hn with rfl | rfl | rfl
  · exact mul_ne h h0 ex
  · exact mul_ne h h0 ey
  · exact mul_ne h h0 ez
theorem Pr.nz {p q : P3} (h : Pr p q) (hq : q.nz) : p.nz := by
  refine Classical.byContradiction fun z => ?_
  obtain ⟨x, y, w⟩ := P3.zero_of z
  obtain ⟨c, d, hc, hd, e⟩ := h
  have e0 : ∀ n : Int, c * n = 0 ∨ n ≠ 0 := fun n => by
    by_cases k : n = 0
    · exact .inl (by rw [k, Int.mul_zero])
    · exact .inr k
  have ex := congrArg P3.x e
  have ey := congrArg P3.y e
  have ez := congrArg P3.z e
  unfold P3.smul at ex ey ez
  dsimp only at ex ey ez
  rw [x, Int.mul_zero] at ex
  rw [y, Int.mul_zero] at ey
  rw [w, Int.mul_zero] at ez
  obtain ⟨n, hn, h0⟩ := hq
  simp only [P3.list, List.mem_cons, List.not_mem_nil, or_false] at hn
  rcases hn with rfl | rfl | rfl
  · exact mul_ne hd h0 ex.symm
  · exact mul_ne hd h0 ey.symm
  · exact mul_ne hd h0 ez.symm
theorem plain_one : plainT one3 = one3 := M3.list_inj (by decide +kernel)
theorem plainP_plainP {p : P3} (h : p.nz) : plainP (plainP p) = plainP p := P3.list_inj (plainI_told h)
theorem plainT_plainT {p : M3} (h : p.nz) : plainT (plainT p) = plainT p := M3.list_inj (plainI_told h)
theorem plainP_nz {p : P3} (h : p.nz) : (plainP p).nz := (Pr.plain h).nz h
theorem smul_le {c : Int} {T : M3} {a b : Nat} (hc : c.natAbs ≤ a) (h : T.le b) : (T.smul c).le (a * b) := by
  refine ⟨⟨?_, ?_, ?_⟩, ⟨?_, ?_, ?_⟩, ⟨?_, ?_, ?_⟩⟩
  · exact natAbs_mul_le hc h.1.1
  · exact natAbs_mul_le hc h.1.2.1
  · exact natAbs_mul_le hc h.1.2.2
  · exact natAbs_mul_le hc h.2.1.1
  · exact natAbs_mul_le hc h.2.1.2.1
  · exact natAbs_mul_le hc h.2.1.2.2
  · exact natAbs_mul_le hc h.2.2.1
  · exact natAbs_mul_le hc h.2.2.2.1
  · exact natAbs_mul_le hc h.2.2.2.2
theorem smul_leP {c : Int} {p : P3} {a b : Nat} (hc : c.natAbs ≤ a) (h : p.le b) : (p.smul c).le (a * b) := ⟨natAbs_mul_le hc h.1, natAbs_mul_le hc h.2.1, natAbs_mul_le hc h.2.2⟩
theorem adj_le {T : M3} {b : Nat} (h : T.le b) : (adj3 T).le (2 * (b * b)) := by
  have c1 := cross_le h.2.1 h.2.2
  have c2 := cross_le h.2.2 h.1
  have c3 := cross_le h.1 h.2.1
  exact ⟨⟨c1.1, c2.1, c3.1⟩, ⟨c1.2.1, c2.2.1, c3.2.1⟩, ⟨c1.2.2, c2.2.2, c3.2.2⟩⟩
end VE

namespace VE
open PySem PySem.Spec PyProof.Rows L2 G0
noncomputable section
theorem orT_f {f g : M Bool} {ρ ρ1 : Rho} {r : Res Bool} (h : f ρ = .ok false ρ1) (h2 : g ρ1 = r) : mOrT f g ρ = r := by
  unfold mOrT
  rw [bind_ok h]
  exact h2
theorem orT_t {f g : M Bool} {ρ ρ1 : Rho} (h : f ρ = .ok true ρ1) : mOrT f g ρ = .ok true ρ1 := by
  unfold mOrT
  rw [bind_ok h]
  rfl
theorem andV_t {f g : M RV} {ρ ρ1 : Rho} {r : Res RV} (h : f ρ = .ok (.val (.bl true)) ρ1) (h2 : g ρ1 = r) : mAndV f g ρ = r := by
  unfold mAndV
  rw [bind_ok (B_ok h)]
  exact h2
theorem repr_ok {d : D} (h : okR d = true) : bRepr [d] = some (.val (.str (py d).shown)) := if_pos h
theorem it_own {f : M RV} {ρ ρ1 : Rho} {xs : List D} (h : f ρ = .ok (.own (.lst xs)) ρ1) : mIt f ρ = .ok xs ρ1 := by
  unfold mIt
  rw [bind_ok h]
  rfl
theorem chain_ok {op op' : D → D → Option RV} {f g h : M RV} {ρ ρ1 ρ2 ρ3 : Rho} {r1 r2 r3 r : RV} {d1 d2 d3 : D} (h1 : f ρ = .ok r1 ρ1) (h2 : g ρ1 = .ok r2 ρ2) (k1 : cont (hold r1) ρ2 = some d1) (k2 : cont (hold r2) ρ2 = some d2) (e : op d1 d2 = some (.val (.bl true)))
    (h3 : h ρ2 = .ok r3 ρ3) (k3 : cont (hold (hold r2)) ρ3 = some d2) (k4 : cont r3 ρ3 = some d3) (e2 : op' d2 d3 = some r) : mChain op op' f g h ρ = .ok r ρ3 := by
  have b1 : mB (fin2 op r1 (hold r2)) ρ2 = .ok true ρ2 := by
    refine B_ok ?_
    unfold fin2
    simp only [k1, k2, e]
  unfold mChain
  rw [bind_ok h1, bind_ok h2, bind_ok b1, if_pos rfl, bind_ok h3]
  unfold fin2
  simp only [k3, k4, e2]
theorem enum_ok {fs : M (List RV)} {ρ ρ1 ρ2 : Rho} {rs : List RV} {t : Bool} {xs : List D} (h1 : fs ρ = .ok rs ρ1) (h2 : settle rs ρ1 = .ok [sq t xs] ρ2) : mEnum fs ρ = .ok (enumD 0 xs) ρ2 := by
  unfold mEnum
  rw [bind_ok h1]
  unfold finE
  rw [bind_ok h2]
  show (match seqD (sq t xs) with | some xs => Res.ok (enumD 0 xs) _ | none => .bad) = _
  rw [seqD_sq]
instance : DecidableEq P3 := fun p q => if h : p.x = q.x ∧ p.y = q.y ∧ p.z = q.z then .isTrue (P3.ext h.1 h.2.1 h.2.2) else .isFalse fun e => h (by subst e; exact ⟨rfl, rfl, rfl⟩)
/-! ### told points in lists -/
theorem eqF_v3 {p q : P3} : eqF 8 (v3 false p) (v3 false q) = decide (p = q) := by
  have e : eqF 8 (v3 false p) (v3 false q) = ((p.x == q.x) && ((p.y == q.y) && (p.z == q.z))) := by
    simp only [v3, sq, eqF, eqLs]
    by_cases h1 : p.x = q.x <;> by_cases h2 : p.y = q.y <;> by_cases h3 : p.z = q.z <;> simp [h1, h2, h3]
  rw [e, Bool.eq_iff_iff]
  simp only [Bool.and_eq_true, beq_iff_eq, decide_eq_true_eq]
  exact ⟨fun h => P3.ext h.1 h.2.1 h.2.2, fun h => by subst h; exact ⟨rfl, rfl, rfl⟩⟩
theorem okF_v3 {p : P3} : okF 8 (v3 false p) = true := by simp [v3, sq, okF]
theorem okF_vs (acc : List P3) : (acc.map (v3 false)).all (okF 8) = true := by
  rw [List.all_map]
  exact List.all_eq_true.mpr fun p _ => okF_v3
theorem opIn_v3 {q : P3} {acc : List P3} : opIn (v3 false q) (.lst (acc.map (v3 false))) = some (.val (.bl (decide (q ∈ acc)))) := by
  have e : inQ (v3 false q) (acc.map (v3 false)) = some (decide (q ∈ acc)) := by
    unfold inQ
    rw [okF_v3, okF_vs, if_pos (by rfl)]
    congr 1
    rw [Bool.eq_iff_iff, List.any_map, List.any_eq_true]
    simp only [Function.comp, eqF_v3, decide_eq_true_eq]
    exact ⟨fun ⟨x, h, e⟩ => e ▸ h, fun h => ⟨q, h, rfl⟩⟩
  show (match inQ (v3 false q) (acc.map (v3 false)) with
    | some b => rB b
    | none => none) = _
  rw [e]
theorem eqLs_v3 : ∀ ps qs : List P3, eqLs (eqF 8) (ps.map (v3 false)) (qs.map (v3 false)) = decide (ps = qs)
  | [], [] => by simp [eqLs]
  | [], _ :: _ => by simp [eqLs]
  | _ :: _, [] => by simp [eqLs]
  | p :: ps, q :: qs => by
    rw [List.map_cons, List.map_cons]
    unfold eqLs
    rw [eqF_v3, eqLs_v3 ps qs]
    by_cases h : p = q
    · subst h; simp
    · simp [h]
theorem eqF7_v3 {p q : P3} : eqF 7 (v3 false p) (v3 false q) = decide (p = q) := by
  have e : eqF 7 (v3 false p) (v3 false q) = ((p.x == q.x) && ((p.y == q.y) && (p.z == q.z))) := by
    simp only [v3, sq, eqF, eqLs]
    by_cases h1 : p.x = q.x <;> by_cases h2 : p.y = q.y <;> by_cases h3 : p.z = q.z <;> simp [h1, h2, h3]
  rw [e, Bool.eq_iff_iff]
  simp only [Bool.and_eq_true, beq_iff_eq, decide_eq_true_eq]
  exact ⟨fun h => P3.ext h.1 h.2.1 h.2.2, fun h => by subst h; exact ⟨rfl, rfl, rfl⟩⟩
theorem eqL7_v3 : ∀ ps qs : List P3, eqLs (eqF 7) (ps.map (v3 false)) (qs.map (v3 false)) = decide (ps = qs)
  | [], [] => by simp [eqLs]
  | [], _ :: _ => by simp [eqLs]
  | _ :: _, [] => by simp [eqLs]
  | p :: ps, q :: qs => by
    rw [List.map_cons, List.map_cons]
    unfold eqLs
    rw [eqF7_v3, eqL7_v3 ps qs]
    by_cases h : p = q
    · subst h; simp
    · simp [h]
theorem okF7_vs (acc : List P3) : okF 8 (.lst (acc.map (v3 false))) = true := by
  show ((acc.map (v3 false)).all (okF 7)) = true
  rw [List.all_map]
  exact List.all_eq_true.mpr fun p _ => by simp [v3, sq, okF]
theorem eqQ_pts {ps qs : List P3} : eqQ (.lst (ps.map (v3 false))) (.lst (qs.map (v3 false))) = some (decide (ps = qs)) := by
  show (if (okF 8 _ && okF 8 _) = true then some (eqF 8 _ _) else eqG _ _) = _
  rw [okF7_vs, okF7_vs]
  show some (eqLs (eqF 7) (ps.map (v3 false)) (qs.map (v3 false))) = _
  rw [eqL7_v3]
/-! ### Spots -/
def spF (ps : List P3) : List (Str × D) := [("_points", .lst (ps.map (v3 false)))]
def spD (ps : List P3) : D := .obj "Spots" (spF ps)
def ptD (x : Bool × P3) : D := v3 x.1 x.2
def insB : M Flow := (sSeq (sIf (mOrT (mNotT (mT (mCall 1 [false] F_is_point (mCons (mPlF 4) mNil)))) (mB (mOp opIn (mCall 1 [false] F_told_point (mCons (mPlF 4) mNil)) (mPlF 2)))) (fun _ => .bad) sNx)
      (sExp (mMut opAppend 2 (mCons (mCall 1 [false] F_told_point (mCons (mPlF 4) mNil)) mNil))))
theorem ins_turn {s0 s1 s3 : Option Slot} {x : Bool × P3} {acc : List P3} (hn : x.2.nz) (hb : x.2.le 1073741823) (hd : plainP x.2 ∉ acc) (hz : acc.length < 1000) : insB [s0, s1, some (.own (.lst (acc.map (v3 false)))), s3, some (.val (ptD x))] = .ok .nx [s0, s1, some (.own (.lst ((acc ++ [plainP x.2]).map (v3 false)))), s3, some (.val (ptD x))] := by
  obtain ⟨ρ1, h1⟩ := (ret_is_point (t := x.1) hn).ex
  obtain ⟨ρ2, h2⟩ := (ret_told_point (t := x.1) hn (hb.mono (by decide))).ex
  have f2 : mCall 1 [false] F_told_point (mCons (mPlF 4) mNil) [s0, s1, some (.own (.lst (acc.map (v3 false)))), s3, some (.val (ptD x))] = .ok (.val (v3 false (plainP x.2))) [s0, s1, some (.own (.lst (acc.map (v3 false)))), s3, some (.val (ptD x))] := call_gen (ds := [ptD x]) rfl rfl h2 rfl rfl
  refine seq_nx (if_ok (orT_f (notT_ok (T_ok (call_gen (ds := [ptD x]) rfl rfl h1 rfl rfl))) (B_ok (b := false) (op_ok f2 (g := mPlF 2) rfl rfl rfl (by show opIn (v3 false (plainP x.2)) (.lst (acc.map (v3 false))) = _; rw [opIn_v3, decide_eq_false hd])))) rfl) (exp_ok (r := .val .non) ?_)
  have hl : holdsL 2 [s0, s1, some (.own (.lst (acc.map (v3 false)))), s3, some (.val (ptD x))] = true := rfl
  unfold mMut
  rw [if_pos hl, bind_ok (cons_ok (g := mNil) f2 rfl), bind_ok (m := settle [hold (RV.val (v3 false (plainP x.2)))]) (a := [v3 false (plainP x.2)]) (ρ1 := [s0, s1, some (.own (.lst (acc.map (v3 false)))), s3, some (.val (ptD x))]) rfl]
  have ha : opAppend (.lst (acc.map (v3 false))) [v3 false (plainP x.2)] = some (.lst (acc.map (v3 false) ++ [v3 false (plainP x.2)]), .non) := by
    show (if decide ((acc.map (v3 false)).length < sizeLine) = true then _ else _) = _
    rw [List.length_map, decide_eq_true (Nat.lt_trans hz (by decide)), if_pos rfl]
  show (match opAppend (.lst (acc.map (v3 false))) [v3 false (plainP x.2)] with
    | some (o', d) => Res.ok (RV.val d) ([s0, s1, some (.own (.lst (acc.map (v3 false)))), s3, some (.val (ptD x))].set 2 (some (.own o')))
    | none => .bad) = _
  rw [ha, List.map_append]
  rfl
theorem ins_loop {s0 s1 : Option Slot} : ∀ (l : List (Bool × P3)) (i : Nat) (acc : List P3) (s3 s4 : Option Slot), (∀ x ∈ l, x.2.nz ∧ x.2.le 1073741823) → (acc ++ l.map fun x => plainP x.2).Nodup → acc.length + l.length < 1000 →
    ∃ s3' s4', forL (gT 2 (gCons (gNF 3) (gCons (gNF 4) gNil))) insB (enumD i (l.map ptD)) [s0, s1, some (.own (.lst (acc.map (v3 false)))), s3, s4] = .ok .nx [s0, s1, some (.own (.lst ((acc ++ l.map fun x => plainP x.2).map (v3 false)))), s3', s4']
  | [], i, acc, s3, s4, _, _, _ => ⟨s3, s4, by
    have e : acc ++ ([] : List (Bool × P3)).map (fun x => plainP x.2) = acc := List.append_nil acc
    rw [e]
    rfl⟩
  | x :: l, i, acc, s3, s4, h, hn, hz => by
    have hx := h x (List.mem_cons_self ..)
    have nd : plainP x.2 ∉ acc := fun m => by
      rw [List.nodup_append] at hn
      exact hn.2.2 _ m _ (by simp) rfl
    rw [List.length_cons] at hz
    obtain ⟨s3', s4', e⟩ := ins_loop (s0 := s0) (s1 := s1) l (i + 1) (acc ++ [plainP x.2]) (some (.val (.int (i : Nat)))) (some (.val (ptD x))) (fun y hy => h y (List.mem_cons_of_mem _ hy)) (by rw [List.append_assoc]; exact hn) (by rw [List.length_append]; simp; omega)
    refine ⟨s3', s4', ?_⟩
    rw [List.map_cons]
    show forL _ insB (.tup [.int (i : Nat), ptD x] :: enumD (i + 1) (l.map ptD)) _ = _
    rw [for_cons (ρ1 := [s0, s1, some (.own (.lst (acc.map (v3 false)))), some (.val (.int (i : Nat))), some (.val (ptD x))]) rfl (ins_turn hx.1 hx.2 nd (by omega)), e, List.append_assoc]
    rfl
theorem ret_Spots {t : Bool} {l : List (Bool × P3)} (h : ∀ x ∈ l, x.2.nz ∧ x.2.le 1073741823) (hn : (l.map fun x => plainP x.2).Nodup) (h0 : 1 ≤ l.length) (hz : l.length ≤ 24) :
    ∃ ρ', F_Spots_init [.par (.ins "Spots" []), .val (sq t (l.map ptD))] = .ok (.val .non) (some (.par (.ins "Spots" (spF (l.map fun x => plainP x.2)))) :: ρ') := by
  obtain ⟨ρ1, h1⟩ := (ret_is_list (t := t) (xs := l.map ptD)).ex
  obtain ⟨s3, s4, e⟩ := ins_loop (s0 := some (.par (.ins "Spots" []))) (s1 := some (.val (sq t (l.map ptD)))) l 0 [] none none h (by simpa using hn) (by simp; omega)
  rw [List.nil_append] at e
  have c1 : mNotT (mB (mChain opLe opLe (mVal (.int 1)) (mC bLen (mCons (mPlF 1) mNil)) (mVal (.int 24)))) [some (.par (.ins "Spots" [])), some (.val (sq t (l.map ptD))), none, none, none] = .ok false [some (.par (.ins "Spots" [])), some (.val (sq t (l.map ptD))), none, none, none] := by
    have lb : mC bLen (mCons (mPlF 1) mNil) [some (.par (.ins "Spots" [])), some (.val (sq t (l.map ptD))), none, none, none] = .ok (.val (.int (l.length : Nat))) [some (.par (.ins "Spots" [])), some (.val (sq t (l.map ptD))), none, none, none] := C_ok (cons_ok (f := mPlF 1) rfl rfl) rfl (by rw [bLen_sq, List.length_map])
    have l1 : opLe (.int 1) (.int (l.length : Nat)) = some (.val (.bl true)) := by show some (RV.val (D.bl (decide _))) = _; rw [decide_eq_true (by omega)]
    have l2 : opLe (.int (l.length : Nat)) (.int 24) = some (.val (.bl true)) := by show some (RV.val (D.bl (decide _))) = _; rw [decide_eq_true (by omega)]
    have k := chain_ok (op := opLe) (op' := opLe) (f := mVal (.int 1)) (h := mVal (.int 24)) rfl lb rfl rfl l1 rfl rfl rfl l2
    exact notT_ok (B_ok k)
  refine ⟨_, fnBody_nx (seq_nx (if_ok (orT_f (notT_ok (T_ok (call_gen (ds := [sq t (l.map ptD)]) rfl rfl h1 rfl rfl))) c1) rfl) (seq_nx (asg_val (f := mLst mNil) (r := .own (.lst [])) rfl rfl) (seq_nx (for_ok (enum_ok (fs := mCons (mPlF 1) mNil) (t := t) (cons_ok (f := mPlF 1) rfl rfl) rfl) e) rfl)))⟩
end
end VE

namespace VE
open PySem PySem.Spec PyProof.Rows L2 G0
noncomputable section
theorem new_ok {C : Str} {n : Nat} {fn : Fn} {f : M (List RV)} {ρ ρ1 ρ2 ρ' : Rho} {rs : List RV} {ds : List D} {fs : List (Str × D)} (h1 : f ρ = .ok rs ρ1) (h2 : settle rs ρ1 = .ok ds ρ2) (hn : ds.length + 1 = n) (hF : fn (.par (.ins C []) :: ds.map Slot.val) = .ok (.val .non) (some (.par (.ins C fs)) :: ρ')) :
    mNew C n fn f ρ = .ok (.own (.ins C fs)) ρ2 := by
  unfold mNew
  rw [bind_ok h1, bind_ok h2]
  show (if ds.length + 1 = n then (match fn (.par (.ins C []) :: ds.map Slot.val) with
    | .ok (.val .non) ρ' => newEnd C ρ2 ρ'
    | .exc C' fs _ => .exc C' fs ρ2
    | _ => .bad) else .bad) = _
  rw [if_pos hn, hF]
  show (if C = C then Res.ok (RV.own (Ob.ins C fs)) ρ2 else .bad) = _
  rw [if_pos rfl]
theorem fld_pts {ps : List P3} : fldOf "Spots" "_points" (spD ps) = some (.val (.lst (ps.map (v3 false)))) := by simp [fldOf, spD, spF, List.lookup]
theorem fldE {f : M RV} {ρ ρ1 : Rho} {r : RV} {ps : List P3} (h : f ρ = .ok r ρ1) (hc : cont r ρ1 = some (spD ps)) : mFld "Spots" "_points" f ρ = .ok (.val (.lst (ps.map (v3 false)))) ρ1 := by
  unfold mFld mUn
  rw [bind_ok h]
  unfold fin1
  simp only [hc, fld_pts]
theorem ret_points {ps : List P3} : Ret F_Spots_points [.val (spD ps)] (.own (.lst (ps.map (v3 false)))) :=
  ret_of (rt_of (ret_ok (C_ok (cons_ok (fldE (f := mPlF 0) rfl rfl) rfl) rfl rfl) rfl))
theorem ret_size {ps : List P3} : Ret F_Spots_size [.val (spD ps)] (.val (.int (ps.length : Nat))) :=
  ret_of (rt_of (ret_ok (C_ok (cons_ok (fldE (f := mPlF 0) rfl rfl) rfl) rfl (by show some (RV.val (D.int ((ps.map (v3 false)).length : Nat))) = _; rw [List.length_map])) rfl))
theorem isC {ps : List P3} : bIsiC "Spots" [spD ps, .cls "Spots"] = some (.val (.bl true)) := by simp [bIsiC, spD, rB]
theorem ret_check_spots {ps : List P3} : Ret F_check_spots [.val (spD ps)] (.val .non) := by
  refine ret_of ?_
  have k : m_check_spots [some (.val (spD ps))] = .ok .nx [some (.val (spD ps))] := if_ok (notT_ok (T_ok (C_ok (cons_ok (f := mPlF 0) rfl (cons_ok (f := mVal (.cls "Spots")) rfl rfl)) rfl isC))) rfl
  show rtF (m_check_spots [some (.val (spD ps))]) = _
  rw [k]
  rfl
theorem ret_eq {ps qs : List P3} : Ret F_Spots___eq__ [.val (spD ps), .val (spD qs)] (.val (.bl (decide (ps = qs)))) :=
  ret_of (rt_of (ret_ok (andV_t (C_ok (cons_ok (f := mPlF 1) rfl (cons_ok (f := mVal (.cls "Spots")) rfl rfl)) rfl isC) (op_ok (fldE (f := mPlF 0) rfl rfl) (fldE (f := mPlF 1) rfl rfl) rfl rfl (r := .val (.bl (decide (ps = qs)))) (by unfold opEq; rw [eqQ_pts]))) rfl))
theorem neC {ps qs : List P3} : opNeC "Spots" F_Spots___eq__ (spD ps) (spD qs) = some (.val (.bl (!decide (ps = qs)))) := by
  obtain ⟨ρ, h⟩ := (ret_eq (ps := ps) (qs := qs)).ex
  have e : eqR F_Spots___eq__ (spD ps) (spD qs) = some (decide (ps = qs)) := by unfold eqR; rw [h]
  show (if ("Spots" : Str) = "Spots" ∧ ("Spots" : Str) = "Spots" then (eqR F_Spots___eq__ (spD ps) (spD qs)).bind fun b => rB (!b) else none) = _
  rw [if_pos ⟨rfl, rfl⟩, e]
  rfl
theorem objOk_sp {m : Str} {ps : List P3} (h : (("_points" : Str) == m) = false := by decide) (h' : (m == ("_points" : Str)) = false := by decide) : objOk m "Spots" (spD ps) = true := by
  simp [objOk, spD, spF, List.lookup, h']
/-- s.points(), s in a slot or new -/
theorem pts_ok {f : M RV} {ρ ρ1 ρ2 : Rho} {r : RV} {ps : List P3} (h : f ρ = .ok r ρ1) (hc : cont r ρ1 = some (spD ps)) (hs : settle [hold r] ρ1 = .ok [spD ps] ρ2) : mMeth "Spots" "points" 1 F_Spots_points f mNil ρ = .ok (.own (.lst (ps.map (v3 false)))) ρ2 := by
  obtain ⟨ρ', e⟩ := (ret_points (ps := ps)).ex
  unfold mMeth
  rw [bind_ok h]
  have k : runF 1 F_Spots_points ([spD ps].map .inl) ρ2 = .ok (.own (.lst (ps.map (v3 false)))) ρ2 := run_data (ds := [spD ps]) e rfl
  simp only [hc, objOk_sp, if_true]
  rw [bind_ok (m := mNil) (a := []) (ρ1 := ρ1) rfl, bind_ok hs]
  exact k
theorem size_ok {f : M RV} {ρ ρ1 ρ2 : Rho} {r : RV} {ps : List P3} (h : f ρ = .ok r ρ1) (hs : set1 r ρ1 = .ok (spD ps) ρ2) : mProp "Spots" "size" F_Spots_size f ρ = .ok (.val (.int (ps.length : Nat))) ρ2 := by
  obtain ⟨ρ', e⟩ := (ret_size (ps := ps)).ex
  unfold mProp
  rw [bind_ok h, bind_ok hs]
  have k : runF 1 F_Spots_size [.inl (spD ps)] ρ2 = .ok (.val (.int (ps.length : Nat))) ρ2 := run_data (ds := [spD ps]) e rfl
  unfold propR
  rw [if_pos objOk_sp]
  unfold noexc
  rw [k]
/-! ### the table of four -/
def fourM (p1 p2 p3 p4 : P3) : M3 := tr3 ⟨p1.smul (det3 ⟨p4, p2, p3⟩), p2.smul (det3 ⟨p1, p4, p3⟩), p3.smul (det3 ⟨p1, p2, p4⟩)⟩
def Fine4 (p1 p2 p3 p4 : P3) : Prop := det3 ⟨p1, p2, p3⟩ ≠ 0 ∧ det3 ⟨p4, p2, p3⟩ ≠ 0 ∧ det3 ⟨p1, p4, p3⟩ ≠ 0 ∧ det3 ⟨p1, p2, p4⟩ ≠ 0
theorem det_le {T : M3} {b : Nat} (h : T.le b) : (det3 T).natAbs ≤ 3 * (b * (2 * (b * b))) := dot_le h.1 (cross_le h.2.1 h.2.2)
section
variable {p1 p2 p3 p4 : P3} {s5 s6 s7 s8 s9 : Option Slot}
abbrev st4 (p1 p2 p3 p4 : P3) (s5 s6 : Option Slot) : Rho := [some (.val (spD [p1, p2, p3, p4])), some (.val (v3 false p1)), some (.val (v3 false p2)), some (.val (v3 false p3)), some (.val (v3 false p4)), s5, s6, none, none, none]
theorem in0 {a b c : Int} : opIn (.int 0) (.lst [.int a, .int b, .int c]) = some (.val (.bl (decide (a = 0 ∨ b = 0 ∨ c = 0)))) := by
  have e : inQ (.int 0) [.int a, .int b, .int c] = some (decide (a = 0 ∨ b = 0 ∨ c = 0)) := by
    unfold inQ
    simp [okF, eqF]
    by_cases h1 : a = 0 <;> by_cases h2 : b = 0 <;> by_cases h3 : c = 0 <;> simp [h1, h2, h3]
  show (match inQ (.int 0) [.int a, .int b, .int c] with
    | some b => rB b
    | none => none) = _
  rw [e]
theorem four_head (hb : ∀ p ∈ [p1, p2, p3, p4], p.le 8192) : ∀ rest : M Flow, sSeq (sExp (mCall 1 [false] F_check_spots (mCons (mPlF 0) mNil))) (sSeq (sIf (mB (mOp opNe (mProp "Spots" "size" F_Spots_size (mPlF 0)) (mVal (.int 4)))) (fun ρ => .exc "NotFour" none ρ) sNx)
    (sSeq (sAsg (mMeth "Spots" "points" 1 F_Spots_points (mPlF 0) mNil) (gT 4 (gCons (gNF 1) (gCons (gNF 2) (gCons (gNF 3) (gCons (gNF 4) gNil))))))
    (sSeq (sAsg (mLst (mCons (mCall 1 [false] F_determinant (mCons (mLst (mCons (mPlF 4) (mCons (mPlF 2) (mCons (mPlF 3) mNil)))) mNil)) (mCons (mCall 1 [false] F_determinant (mCons (mLst (mCons (mPlF 1) (mCons (mPlF 4) (mCons (mPlF 3) mNil)))) mNil)) (mCons (mCall 1 [false] F_determinant (mCons (mLst (mCons (mPlF 1) (mCons (mPlF 2) (mCons (mPlF 4) mNil)))) mNil)) mNil)))) (gNF 5)) rest)))
    [some (.val (spD [p1, p2, p3, p4])), none, none, none, none, none, none, none, none, none] = rest (st4 p1 p2 p3 p4 (some (.own (.lst [.int (det3 ⟨p4, p2, p3⟩), .int (det3 ⟨p1, p4, p3⟩), .int (det3 ⟨p1, p2, p4⟩)]))) none) := by
  intro rest
  have b1 := hb p1 (by simp)
  have b2 := hb p2 (by simp)
  have b3 := hb p3 (by simp)
  have b4 := hb p4 (by simp)
  obtain ⟨ρ1, h1⟩ := (ret_check_spots (ps := [p1, p2, p3, p4])).ex
  obtain ⟨ρ2, h2⟩ := (ret_determinant (t := true) (t1 := false) (t2 := false) (t4 := false) (T := ⟨p4, p2, p3⟩) ⟨b4.mono (by decide), b2.mono (by decide), b3.mono (by decide)⟩).ex
  obtain ⟨ρ3, h3⟩ := (ret_determinant (t := true) (t1 := false) (t2 := false) (t4 := false) (T := ⟨p1, p4, p3⟩) ⟨b1.mono (by decide), b4.mono (by decide), b3.mono (by decide)⟩).ex
  obtain ⟨ρ4, h4⟩ := (ret_determinant (t := true) (t1 := false) (t2 := false) (t4 := false) (T := ⟨p1, p2, p4⟩) ⟨b1.mono (by decide), b2.mono (by decide), b4.mono (by decide)⟩).ex
  refine seq_nx (exp_ok (call_gen (ds := [spD [p1, p2, p3, p4]]) rfl rfl h1 rfl rfl)) (seq_nx (if_ok (B_ok (b := false) (op_ok (size_ok (ps := [p1, p2, p3, p4]) (f := mPlF 0) rfl rfl) (g := mVal (.int 4)) rfl rfl rfl rfl)) rfl) (seq_nx (asg_val (pts_ok (ps := [p1, p2, p3, p4]) (f := mPlF 0) (r := .val (spD [p1, p2, p3, p4])) rfl rfl rfl) rfl) (seq_nx (asg_val (lst_ok (cons_ok (call_gen (ds := [t3 true false false false ⟨p4, p2, p3⟩]) (cons_ok (f := mLst (mCons (mPlF 4) (mCons (mPlF 2) (mCons (mPlF 3) mNil)))) rfl rfl) rfl h2 rfl rfl) (cons_ok (call_gen (ds := [t3 true false false false ⟨p1, p4, p3⟩]) (cons_ok (f := mLst (mCons (mPlF 1) (mCons (mPlF 4) (mCons (mPlF 3) mNil)))) rfl rfl) rfl h3 rfl rfl) (cons_ok (call_gen (ds := [t3 true false false false ⟨p1, p2, p4⟩]) (cons_ok (f := mLst (mCons (mPlF 1) (mCons (mPlF 2) (mCons (mPlF 4) mNil)))) rfl rfl) rfl h4 rfl rfl) rfl))) rfl rfl) rfl) rfl)))
end
end
end VE

/-! rows of numbers: what is a sum of multiples of what, and how many are independent -/
namespace RK
open Classical
abbrev Vec := Nat → Int
/-- a multiple of v, not by 0, is a sum of multiples of the rows -/
def Sp : List Vec → Vec → Prop
  | [], v => ∀ i, v i = 0
  | a :: A, v => ∃ d c : Int, d ≠ 0 ∧ Sp A (fun i => d * v i - c * a i)
theorem Sp.zero : ∀ (A : List Vec) {v : Vec}, (∀ i, v i = 0) → Sp A v
  | [], v, h => h
  | a :: A, v, h => ⟨1, 0, by decide, Sp.zero A fun i => by simp [h i]⟩
theorem Sp.congr {A : List Vec} {v w : Vec} (h : Sp A v) (e : ∀ i, w i = v i) : Sp A w := by
  have : w = v := funext e
  rw [this]; exact h
theorem Sp.smul : ∀ {A : List Vec} {v : Vec} (k : Int), Sp A v → Sp A (fun i => k * v i)
  | [], v, k, h => fun i => by simp [h i]
  | a :: A, v, k, ⟨d, c, hd, h⟩ => ⟨d, k * c, hd, (Sp.smul k h).congr fun i => by grind⟩
theorem Sp.unsmul : ∀ {A : List Vec} {v : Vec} {k : Int}, k ≠ 0 → Sp A (fun i => k * v i) → Sp A v
  | [], v, k, hk, h => fun i => by
    have := h i
    rcases Int.mul_eq_zero.mp this with h | h
    · exact absurd h hk
    · exact h
  | a :: A, v, k, hk, ⟨d, c, hd, h⟩ => ⟨d * k, c, Int.mul_ne_zero hd hk, h.congr fun i => by grind⟩
theorem Sp.add : ∀ {A : List Vec} {v w : Vec}, Sp A v → Sp A w → Sp A (fun i => v i + w i)
  | [], v, w, h, h' => fun i => by show v i + w i = 0; rw [h i, h' i]; rfl
  | a :: A, v, w, ⟨d, c, hd, h⟩, ⟨d', c', hd', h'⟩ => ⟨d * d', d' * c + d * c', Int.mul_ne_zero hd hd', ((h.smul d').add (h'.smul d)).congr fun i => by grind⟩
theorem Sp.sub {A : List Vec} {v w : Vec} (h : Sp A v) (h' : Sp A w) : Sp A (fun i => v i - w i) := (h.add (h'.smul (-1))).congr fun i => by grind
theorem Sp.weak {a : Vec} {A : List Vec} {v : Vec} (h : Sp A v) : Sp (a :: A) v := ⟨1, 0, by decide, h.congr fun i => by grind⟩
theorem Sp.head {a : Vec} {A : List Vec} : Sp (a :: A) a := ⟨1, 1, by decide, Sp.zero A fun i => by grind⟩
theorem Sp.mem : ∀ {A : List Vec} {a : Vec}, a ∈ A → Sp A a
  | b :: A, a, h => by
    rcases List.mem_cons.mp h with rfl | h
    · exact Sp.head
    · exact (Sp.mem h).weak
theorem Sp.trans {B : List Vec} : ∀ {A : List Vec} {v : Vec}, (∀ a ∈ A, Sp B a) → Sp A v → Sp B v
  | [], v, _, h => Sp.zero B h
  | a :: A, v, hA, ⟨d, c, hd, h⟩ => by
    have h1 := Sp.trans (fun x hx => hA x (List.mem_cons_of_mem _ hx)) h
    exact Sp.unsmul hd ((h1.add ((hA a (List.mem_cons_self ..)).smul c)).congr fun i => by grind)
theorem Sp.sub_list {A B : List Vec} {v : Vec} (h : Sp A v) (s : ∀ a ∈ A, a ∈ B) : Sp B v := h.trans fun a ha => Sp.mem (s a ha)
/-- what all rows have 0 at, their sums have 0 at -/
theorem Sp.at0 {j : Nat} : ∀ {A : List Vec} {v : Vec}, (∀ a ∈ A, a j = 0) → Sp A v → v j = 0
  | [], v, _, h => h j
  | a :: A, v, hA, ⟨d, c, hd, h⟩ => by
    have := Sp.at0 (fun x hx => hA x (List.mem_cons_of_mem _ hx)) h
    rw [hA a (List.mem_cons_self ..)] at this
    have h2 : d * v j = 0 := by grind
    rcases Int.mul_eq_zero.mp h2 with h | h
    · exact absurd h hd
    · exact h

/-! ### how many -/
noncomputable def rk : List Vec → Nat
  | [] => 0
  | a :: A => rk A + if Sp A a then 0 else 1
noncomputable def bas : List Vec → List Vec
  | [] => []
  | a :: A => if Sp A a then bas A else a :: bas A
theorem bas_len : ∀ A : List Vec, (bas A).length = rk A
  | [] => rfl
  | a :: A => by
    unfold bas rk
    split
    · exact bas_len A
    · rw [List.length_cons, bas_len A]
theorem bas_mem : ∀ {A : List Vec} {a : Vec}, a ∈ bas A → a ∈ A
  | [], a, h => h
  | b :: A, a, h => by
    unfold bas at h
    split at h
    · exact List.mem_cons_of_mem _ (bas_mem h)
    · rcases List.mem_cons.mp h with rfl | h
      · exact List.mem_cons_self ..
      · exact List.mem_cons_of_mem _ (bas_mem h)
theorem bas_sp : ∀ {A : List Vec} {a : Vec}, a ∈ A → Sp (bas A) a
  | b :: A, a, h => by
    unfold bas
    split
    · rename_i s
      rcases List.mem_cons.mp h with rfl | h
      · exact s.trans fun x hx => bas_sp hx
      · exact bas_sp h
    · rcases List.mem_cons.mp h with rfl | h
      · exact Sp.head
      · exact (bas_sp h).weak
def Ind : List Vec → Prop
  | [] => True
  | a :: A => ¬ Sp A a ∧ Ind A
theorem bas_ind : ∀ A : List Vec, Ind (bas A)
  | [] => trivial
  | a :: A => by
    unfold bas
    split
    · exact bas_ind A
    · rename_i s
      exact ⟨fun h => s (h.sub_list fun x hx => bas_mem hx), bas_ind A⟩
theorem exch {A : List Vec} : ∀ {C : List Vec} {a : Vec}, Sp (C ++ A) a → ¬ Sp A a → ∃ C1 c C2, C = C1 ++ c :: C2 ∧ Sp (a :: (C1 ++ C2 ++ A)) c
  | [], a, h, n => absurd h n
  | c :: C, a, ⟨d, k, hd, h⟩, n => by
    by_cases hk : k = 0
    · subst hk
      have h2 : Sp (C ++ A) a := Sp.unsmul hd (h.congr fun i => by grind)
      obtain ⟨C1, c', C2, rfl, h3⟩ := exch h2 n
      refine ⟨c :: C1, c', C2, rfl, h3.sub_list fun x hx => ?_⟩
      rcases List.mem_cons.mp hx with rfl | hx
      · exact List.mem_cons_self ..
      · exact List.mem_cons_of_mem _ (List.mem_cons_of_mem _ hx)
    · exact ⟨[], c, C, rfl, k, d, hk, (h.smul (-1)).congr fun i => by grind⟩
theorem steinitz {B : List Vec} : ∀ {A : List Vec}, Ind A → (∀ a ∈ A, Sp B a) → ∃ C : List Vec, A.length + C.length = B.length ∧ ∀ b ∈ B, Sp (C ++ A) b
  | [], _, _ => ⟨B, by simp, fun b hb => Sp.mem (by simpa using hb)⟩
  | a :: A, ⟨na, iA⟩, hA => by
    obtain ⟨C, hl, hC⟩ := steinitz iA fun x hx => hA x (List.mem_cons_of_mem _ hx)
    have h1 : Sp (C ++ A) a := (hA a (List.mem_cons_self ..)).trans hC
    obtain ⟨C1, c, C2, rfl, h2⟩ := exch h1 na
    refine ⟨C1 ++ C2, by simp only [List.length_append, List.length_cons] at hl ⊢; omega, fun b hb => ?_⟩
    refine (hC b hb).trans fun x hx => ?_
    by_cases e : x = c
    · subst e
      exact h2.sub_list fun y hy => by
        simp only [List.mem_cons, List.mem_append] at hy ⊢
        rcases hy with h | (h | h) | h <;> simp [h]
    · refine Sp.mem ?_
      simp only [List.mem_cons, List.mem_append] at hx ⊢
      rcases hx with (h | h | h) | h
      · simp [h]
      · exact absurd h e
      · simp [h]
      · simp [h]
theorem rk_le {A B : List Vec} (h : ∀ a ∈ A, Sp B a) : rk A ≤ rk B := by
  obtain ⟨C, hl, _⟩ := steinitz (B := bas B) (bas_ind A) fun a ha => (h a (bas_mem ha)).trans fun b hb => bas_sp hb
  rw [bas_len, bas_len] at hl
  omega
theorem rk_eq {A B : List Vec} (h : ∀ a ∈ A, Sp B a) (h' : ∀ b ∈ B, Sp A b) : rk A = rk B := Nat.le_antisymm (rk_le h) (rk_le h')
theorem rk_mem {A B : List Vec} (h : ∀ a, a ∈ A ↔ a ∈ B) : rk A = rk B := rk_eq (fun a ha => Sp.mem ((h a).mp ha)) fun a ha => Sp.mem ((h a).mpr ha)
theorem rk_len : ∀ A : List Vec, rk A ≤ A.length
  | [] => Nat.le_refl _
  | a :: A => by
    have := rk_len A
    show rk A + (if Sp A a then 0 else 1) ≤ A.length + 1
    split <;> omega
theorem rk_ind : ∀ {A : List Vec}, Ind A → rk A = A.length
  | [], _ => rfl
  | a :: A, ⟨n, h⟩ => by
    show rk A + (if Sp A a then 0 else 1) = A.length + 1
    rw [if_neg n, rk_ind h]
theorem ind_rk : ∀ {A : List Vec}, rk A = A.length → Ind A
  | [], _ => trivial
  | a :: A, h => by
    have l := rk_len A
    have h : rk A + (if Sp A a then 0 else 1) = A.length + 1 := h
    by_cases s : Sp A a
    · rw [if_pos s] at h; omega
    · rw [if_neg s] at h; exact ⟨s, ind_rk (by omega)⟩
/-- a step: the others less multiples of a row, so that they have 0 at a place -/
theorem rk_step {α : Type} {p : Vec} {j : Nat} {R : List α} {u f : α → Vec} (hp : p j ≠ 0) (hf : ∀ r ∈ R, ∃ s : Int, s ≠ 0 ∧ ∀ i, s * f r i = p j * u r i - u r j * p i) : rk (p :: R.map u) = rk (R.map f) + 1 := by
  have e1 : rk (p :: R.map u) = rk (p :: R.map f) := by
    refine rk_eq (fun a ha => ?_) fun a ha => ?_
    · rcases List.mem_cons.mp ha with rfl | ha
      · exact Sp.head
      · obtain ⟨r, hr, rfl⟩ := List.mem_map.mp ha
        obtain ⟨s, hs, e⟩ := hf r hr
        have h1 : Sp (p :: R.map f) (f r) := (Sp.mem (List.mem_map.mpr ⟨r, hr, rfl⟩)).weak
        exact Sp.unsmul hp (((h1.smul s).add (Sp.head.smul (u r j))).congr fun i => by grind)
    · rcases List.mem_cons.mp ha with rfl | ha
      · exact Sp.head
      · obtain ⟨r, hr, rfl⟩ := List.mem_map.mp ha
        obtain ⟨s, hs, e⟩ := hf r hr
        have h1 : Sp (p :: R.map u) (u r) := (Sp.mem (List.mem_map.mpr ⟨r, hr, rfl⟩)).weak
        exact Sp.unsmul hs (((h1.smul (p j)).sub (Sp.head.smul (u r j))).congr fun i => by grind)
  rw [e1]
  show rk (R.map f) + (if Sp (R.map f) p then 0 else 1) = _
  rw [if_neg fun h => hp (Sp.at0 (fun a ha => ?_) h)]
  obtain ⟨r, hr, rfl⟩ := List.mem_map.mp ha
  obtain ⟨s, hs, e⟩ := hf r hr
  have h2 : s * f r j = 0 := by rw [e]; grind
  rcases Int.mul_eq_zero.mp h2 with h | h
  · exact absurd h hs
  · exact h
theorem rk_cons_zero {a : Vec} {A : List Vec} (h : ∀ i, a i = 0) : rk (a :: A) = rk A := by
  show rk A + (if Sp A a then 0 else 1) = _
  rw [if_pos (Sp.zero A h)]
  rfl
theorem rk_zero : ∀ {A : List Vec}, (∀ a ∈ A, ∀ i, a i = 0) → rk A = 0
  | [], _ => rfl
  | a :: A, h => by rw [rk_cons_zero (h a (List.mem_cons_self ..)), rk_zero fun x hx => h x (List.mem_cons_of_mem _ hx)]
/-! ### the first column left out -/
def tl (v : Vec) : Vec := fun i => v (i + 1)
theorem Sp.tl : ∀ {A : List Vec} {v : Vec}, Sp A v → Sp (A.map tl) (tl v)
  | [], v, h => fun i => h (i + 1)
  | a :: A, v, ⟨d, c, hd, h⟩ => ⟨d, c, hd, Sp.tl h⟩
theorem Sp.of_tl : ∀ {A : List Vec} {v : Vec}, (∀ a ∈ A, a 0 = 0) → v 0 = 0 → Sp (A.map RK.tl) (RK.tl v) → Sp A v
  | [], v, _, h0, h => fun i => match i with
    | 0 => h0
    | i + 1 => h i
  | a :: A, v, hA, h0, ⟨d, c, hd, h⟩ => ⟨d, c, hd, Sp.of_tl (fun x hx => hA x (List.mem_cons_of_mem _ hx)) (by rw [h0, hA a (List.mem_cons_self ..)]; grind) h⟩
theorem rk_tl_le : ∀ A : List Vec, rk (A.map tl) ≤ rk A
  | [] => Nat.le_refl _
  | a :: A => by
    have := rk_tl_le A
    show rk (A.map tl) + (if Sp (A.map tl) (tl a) then 0 else 1) ≤ rk A + (if Sp A a then 0 else 1)
    by_cases s : Sp A a
    · rw [if_pos s, if_pos s.tl]; omega
    · rw [if_neg s]; split <;> omega
theorem rk_tl : ∀ {A : List Vec}, (∀ a ∈ A, a 0 = 0) → rk (A.map tl) = rk A
  | [], _ => rfl
  | a :: A, h => by
    have := rk_tl fun x hx => h x (List.mem_cons_of_mem _ hx)
    show rk (A.map tl) + (if Sp (A.map tl) (tl a) then 0 else 1) = rk A + (if Sp A a then 0 else 1)
    by_cases s : Sp A a
    · rw [if_pos s, if_pos s.tl]; omega
    · rw [if_neg s, if_neg fun z => s (Sp.of_tl (fun x hx => h x (List.mem_cons_of_mem _ hx)) (h a (List.mem_cons_self ..)) z)]; omega
theorem rk_elim {α : Type} {p : Vec} {R : List α} {u g : α → Vec} (hp : p 0 ≠ 0) (h : ∀ r ∈ R, ∃ s : Int, s ≠ 0 ∧ ∀ i, s * g r i = p 0 * u r (i + 1) - u r 0 * p (i + 1)) : rk (p :: R.map u) = rk (R.map g) + 1 := by
  have e := rk_step (j := 0) (R := R) (u := u) (f := fun r i => match i with
    | 0 => 0
    | i + 1 => g r i) hp fun r hr => by
      obtain ⟨s, hs, e⟩ := h r hr
      refine ⟨s, hs, fun i => ?_⟩
      cases i with
      | zero => show s * 0 = _; grind
      | succ i => exact e i
  rw [e, ← rk_tl (A := R.map _) fun a ha => by obtain ⟨r, _, rfl⟩ := List.mem_map.mp ha; rfl, List.map_map]
  rfl
/-- no more than places -/
def unit (w : Nat) : Vec := fun i => if i = w then 1 else 0
def units : Nat → List Vec
  | 0 => []
  | w + 1 => unit w :: units w
theorem units_len : ∀ w, (units w).length = w
  | 0 => rfl
  | w + 1 => congrArg (· + 1) (units_len w)
theorem sp_units : ∀ (w : Nat) {v : Vec}, (∀ i, w ≤ i → v i = 0) → Sp (units w) v
  | 0, v, h => fun i => h i (Nat.zero_le _)
  | w + 1, v, h => ⟨1, v w, by decide, sp_units w fun i hi => by
    unfold unit
    by_cases e : i = w
    · subst e; simp
    · rw [if_neg e, h i (by omega)]; simp⟩
theorem rk_width {A : List Vec} {w : Nat} (h : ∀ a ∈ A, ∀ i, w ≤ i → a i = 0) : rk A ≤ w := by
  have := rk_le (B := units w) fun a ha => sp_units w (h a ha)
  have h2 := rk_len (units w)
  rw [units_len] at h2
  omega
end RK

/-! determinants of rows at places, by the first row, and Bareiss's steps -/
namespace RK
/-- the sum along the places of the row's number, signed, times what the rest comes to -/
def lap (r : Vec) (g : List Nat → Int) : List Nat → Int
  | [] => 0
  | c :: cs => r c * g cs - lap r (fun t => g (c :: t)) cs
def det : List Vec → List Nat → Int
  | [], _ => 1
  | r :: rs, cs => lap r (det rs) cs
theorem lap_add (r : Vec) : ∀ (cs : List Nat) (g h : List Nat → Int), lap r (fun t => g t + h t) cs = lap r g cs + lap r h cs
  | [], g, h => by simp [lap]
  | c :: cs, g, h => by
    simp only [lap]
    rw [lap_add r cs (fun t => g (c :: t)) (fun t => h (c :: t))]
    grind
theorem lap_mul (r : Vec) : ∀ (cs : List Nat) (k : Int) (g : List Nat → Int), lap r (fun t => k * g t) cs = k * lap r g cs
  | [], k, g => by simp [lap]
  | c :: cs, k, g => by
    simp only [lap]
    rw [lap_mul r cs k (fun t => g (c :: t))]
    grind
theorem lap_sub (r : Vec) (cs : List Nat) (g h : List Nat → Int) : lap r (fun t => g t - h t) cs = lap r g cs - lap r h cs := by
  have e : (fun t => g t - h t) = fun t => g t + (-1) * h t := funext fun t => by grind
  rw [e, lap_add, lap_mul]
  grind
theorem lap_zero (r : Vec) (cs : List Nat) : lap r (fun _ => 0) cs = 0 := by
  have := lap_mul r cs 0 (fun _ => 0)
  simpa using this
theorem lap_swap (r s : Vec) : ∀ (cs : List Nat) (g : List Nat → Int), lap r (lap s g) cs = - lap s (lap r g) cs
  | [], g => by simp [lap]
  | c :: cs, g => by
    have e1 : (fun t => lap s g (c :: t)) = fun t => s c * g t - lap s (fun u => g (c :: u)) t := rfl
    have e2 : (fun t => lap r g (c :: t)) = fun t => r c * g t - lap r (fun u => g (c :: u)) t := rfl
    show r c * lap s g cs - lap r (fun t => lap s g (c :: t)) cs = - (s c * lap r g cs - lap s (fun t => lap r g (c :: t)) cs)
    rw [e1, e2, lap_sub, lap_sub, lap_mul, lap_mul, lap_swap r s cs]
    grind
theorem lap_same (r : Vec) (cs : List Nat) (g : List Nat → Int) : lap r (lap r g) cs = 0 := by
  have := lap_swap r r cs g
  omega
theorem lap_in : ∀ {rs : List Vec} {r : Vec}, r ∈ rs → ∀ cs, lap r (det rs) cs = 0
  | s :: rs, r, h, cs => by
    rcases List.mem_cons.mp h with rfl | h
    · exact lap_same r cs (det rs)
    · show lap r (lap s (det rs)) cs = 0
      rw [lap_swap]
      have e : lap r (det rs) = fun _ => 0 := funext fun t => lap_in h t
      rw [e, lap_zero]
      rfl
/-- a sum of multiples of the numbers at the places -/
def Fl : List Nat → (Vec → Int) → Prop
  | [], G => ∀ r, G r = 0
  | c :: cs, G => ∃ m : Int, Fl cs fun r => G r - m * r c
theorem Fl.congr {cs : List Nat} {G G' : Vec → Int} (h : Fl cs G) (e : ∀ r, G' r = G r) : Fl cs G' := by
  have : G' = G := funext e
  rw [this]; exact h
theorem Fl.zero : ∀ cs : List Nat, Fl cs fun _ => 0
  | [] => fun _ => rfl
  | c :: cs => ⟨0, (Fl.zero cs).congr fun r => by grind⟩
theorem Fl.smul : ∀ {cs : List Nat} {G : Vec → Int} (k : Int), Fl cs G → Fl cs fun r => k * G r
  | [], G, k, h => fun r => by show k * G r = 0; rw [h r]; grind
  | c :: cs, G, k, ⟨m, h⟩ => ⟨k * m, (Fl.smul k h).congr fun r => by grind⟩
theorem Fl.add : ∀ {cs : List Nat} {G G' : Vec → Int}, Fl cs G → Fl cs G' → Fl cs fun r => G r + G' r
  | [], G, G', h, h' => fun r => by show G r + G' r = 0; rw [h r, h' r]; rfl
  | c :: cs, G, G', ⟨m, h⟩, ⟨m', h'⟩ => ⟨m + m', (Fl.add h h').congr fun r => by grind⟩
theorem Fl.weak {c : Nat} {cs : List Nat} {G : Vec → Int} (h : Fl cs G) : Fl (c :: cs) G := ⟨0, h.congr fun r => by grind⟩
theorem Fl.lap : ∀ (cs : List Nat) (g : List Nat → Int), Fl cs fun r => lap r g cs
  | [], g => fun r => rfl
  | c :: cs, g => ⟨g cs, ((Fl.lap cs fun t => g (c :: t)).smul (-1)).congr fun r => by
    show r c * g cs - RK.lap r (fun t => g (c :: t)) cs - g cs * r c = -1 * RK.lap r (fun t => g (c :: t)) cs
    grind⟩
/-- what rows come to, bordered by a row and a place -/
def bor (ps : List Vec) (cs : List Nat) (r : Vec) (c : Nat) : Int := lap r (det ps) (c :: cs)
theorem bor_split (ps : List Vec) (cs : List Nat) (c : Nat) : ∃ A : Vec → Int, Fl cs A ∧ ∀ r, bor ps cs r c = r c * det ps cs - A r :=
  ⟨fun r => lap r (fun t => det ps (c :: t)) cs, Fl.lap cs _, fun r => rfl⟩
theorem bor_fl (ps : List Vec) (cs : List Nat) (c : Nat) : Fl (c :: cs) fun r => bor ps cs r c := Fl.lap (c :: cs) (det ps)
theorem bor_in {ps : List Vec} {p : Vec} (h : p ∈ ps) (cs : List Nat) (c : Nat) : bor ps cs p c = 0 := lap_in h _
theorem det_bor (ps : List Vec) (cs : List Nat) (p : Vec) (c : Nat) : det (p :: ps) (c :: cs) = bor ps cs p c := rfl
/-- what has 0 at the rows has 0 at all -/
def Un (ps : List Vec) (cs : List Nat) : Prop := ∀ G, Fl cs G → (∀ p ∈ ps, G p = 0) → ∀ r, G r = 0
theorem Un.nil : Un [] [] := fun G h _ r => h r
theorem Un.step {ps : List Vec} {cs : List Nat} {p : Vec} {c : Nat} (h : Un ps cs) (hd : det ps cs ≠ 0) (hp : bor ps cs p c ≠ 0) : Un (p :: ps) (c :: cs) := by
  rintro G ⟨m, hG⟩ h0 r
  obtain ⟨A, hA, eA⟩ := bor_split ps cs c
  have key : ∀ r, det ps cs * G r - m * bor ps cs r c = 0 := h (fun r => det ps cs * G r - m * bor ps cs r c) (((hG.smul (det ps cs)).add (hA.smul m)).congr fun r => by rw [eA r]; grind) fun q hq => by
    rw [h0 q (List.mem_cons_of_mem _ hq), bor_in hq]
    grind
  have k1 := key p
  rw [h0 p (List.mem_cons_self ..)] at k1
  have hm : m = 0 := by
    have : m * bor ps cs p c = 0 := by grind
    rcases Int.mul_eq_zero.mp this with h | h
    · exact h
    · exact absurd h hp
  have k2 := key r
  rw [hm] at k2
  have : det ps cs * G r = 0 := by grind
  rcases Int.mul_eq_zero.mp this with h | h
  · exact absurd h hd
  · exact h
/-- Sylvester's identity -/
theorem bor_step {ps : List Vec} {cs : List Nat} {p : Vec} {c0 : Nat} (h : Un ps cs) (hd : det ps cs ≠ 0) (hp : bor ps cs p c0 ≠ 0) (r : Vec) (c : Nat) :
    det ps cs * bor (p :: ps) (c0 :: cs) r c = bor ps cs r c * bor ps cs p c0 - bor ps cs p c * bor ps cs r c0 := by
  obtain ⟨A1, hA1, e1⟩ := bor_split (p :: ps) (c0 :: cs) c
  obtain ⟨A2, hA2, e2⟩ := bor_split ps cs c
  have key := h.step hd hp (fun r => det ps cs * bor (p :: ps) (c0 :: cs) r c - bor ps cs r c * bor ps cs p c0 + bor ps cs p c * bor ps cs r c0)
    (((hA1.smul (- det ps cs)).add ((hA2.weak.smul (bor ps cs p c0)).add ((bor_fl ps cs c0).smul (bor ps cs p c)))).congr fun r => by
      rw [e1 r, e2 r, det_bor]
      grind) (fun q hq => by
      rcases List.mem_cons.mp hq with rfl | hq'
      · rw [bor_in (List.mem_cons_self ..)]
        grind
      · rw [bor_in hq, bor_in hq', bor_in hq']
        grind) r
  grind
/-! ### how great -/
theorem lap_le {r : Vec} {b : Nat} (hr : ∀ i, (r i).natAbs ≤ b) : ∀ (cs : List Nat) (g : List Nat → Int) (M : Nat), (∀ t, t.length + 1 = cs.length → (g t).natAbs ≤ M) → (lap r g cs).natAbs ≤ cs.length * (b * M)
  | [], g, M, _ => by simp [lap]
  | c :: cs, g, M, h => by
    have h1 : (r c * g cs).natAbs ≤ b * M := by
      rw [Int.natAbs_mul]
      exact Nat.mul_le_mul (hr c) (h cs rfl)
    have h2 := lap_le hr cs (fun t => g (c :: t)) M fun t ht => h (c :: t) (by simp; omega)
    have e : (c :: cs).length * (b * M) = cs.length * (b * M) + b * M := by rw [List.length_cons, Nat.succ_mul]
    rw [e]
    show (r c * g cs - lap r (fun t => g (c :: t)) cs).natAbs ≤ _
    omega
def dB (b : Nat) : Nat → Nat
  | 0 => 1
  | k + 1 => (k + 1) * (b * dB b k)
theorem det_le' {b : Nat} : ∀ {ps : List Vec} (_ : ∀ p ∈ ps, ∀ i, (p i).natAbs ≤ b) (cs : List Nat), cs.length = ps.length → (det ps cs).natAbs ≤ dB b ps.length
  | [], _, cs, _ => by show (1 : Int).natAbs ≤ 1; decide
  | p :: ps, h, cs, hl => by
    have := lap_le (h p (List.mem_cons_self ..)) cs (det ps) (dB b ps.length) fun t ht => det_le' (fun q hq => h q (List.mem_cons_of_mem _ hq)) t (by simp at hl; omega)
    rw [hl] at this
    exact this
theorem bor_le {b : Nat} {ps : List Vec} {cs : List Nat} {r : Vec} (h : ∀ p ∈ ps, ∀ i, (p i).natAbs ≤ b) (hr : ∀ i, (r i).natAbs ≤ b) (hl : cs.length = ps.length) (c : Nat) : (bor ps cs r c).natAbs ≤ dB b (ps.length + 1) :=
  det_le' (ps := r :: ps) (fun q hq => by
    rcases List.mem_cons.mp hq with rfl | hq
    · exact hr
    · exact h q hq) (c :: cs) (by simp [hl])
theorem dB_mono {b : Nat} (hb : 1 ≤ b) : ∀ {j k : Nat}, j ≤ k → dB b j ≤ dB b k
  | j, 0, h => by
    have : j = 0 := by omega
    subst this; exact Nat.le_refl _
  | j, k + 1, h => by
    by_cases e : j = k + 1
    · subst e; exact Nat.le_refl _
    · have := dB_mono hb (j := j) (k := k) (by omega)
      show dB b j ≤ (k + 1) * (b * dB b k)
      have h1 : dB b k ≤ b * dB b k := Nat.le_mul_of_pos_left _ hb
      have h2 : b * dB b k ≤ (k + 1) * (b * dB b k) := Nat.le_mul_of_pos_left _ (by omega)
      omega
end RK

/-! the program's elimination, as it runs over lists -/
namespace RK
def vec (l : List Int) : Vec := fun i => l.getD i 0
def hd (l : List Int) : Int := l.headD 0
theorem vec_hd (l : List Int) : vec l 0 = hd l := by cases l <;> rfl
theorem vec_tl (l : List Int) : tl (vec l) = vec l.tail := funext fun i => by cases l <;> simp [tl, vec]
theorem vec_nil {l : List Int} (h : l.length = 0) (i : Nat) : vec l i = 0 := by
  rw [List.length_eq_zero_iff.mp h]
  rfl
def nzq (q x : Int) : Bool := (if q = 0 then x else x.fmod q) != 0
def firstF (q : Int) : List (List Int) → Option Nat
  | [] => none
  | r :: rs => if nzq q (hd r) then some 0 else (firstF q rs).map (· + 1)
def crs (p r : List Int) : List Int := List.zipWith (fun n o => n * hd p - o * hd r) r.tail p.tail
def clr (q last : Int) (p r : List Int) : List Int := (crs p r).map fun n => if q = 0 then n.fdiv last else n.fmod q
def colsF (q : Int) : Nat → Nat → List (List Int) → Int → List Nat
  | 0, _, _, _ => []
  | w + 1, pl, left, last => match firstF q left with
    | none => colsF q w (pl + 1) (left.map List.tail) last
    | some k => pl :: colsF q w (pl + 1) ((left.take k ++ left.drop (k + 1)).map (clr q last (left.getD k []))) (hd (left.getD k []))
def Sm (x : Int) : Prop := x.natAbs < 2 ^ 9000
def RunOk (q : Int) : Nat → List (List Int) → Int → Prop
  | 0, _, _ => True
  | w + 1, left, last => (∀ r ∈ left, r.length = w + 1 ∧ ∀ x ∈ r, Sm x) ∧ (last ≠ 0 ∧ Sm last) ∧ match firstF q left with
    | none => RunOk q w (left.map List.tail) last
    | some k => RunOk q w ((left.take k ++ left.drop (k + 1)).map (clr q last (left.getD k []))) (hd (left.getD k []))
theorem firstF_some {q : Int} : ∀ {left : List (List Int)} {k : Nat}, firstF q left = some k → ∃ L1 p L2, left = L1 ++ p :: L2 ∧ L1.length = k ∧ nzq q (hd p) = true
  | r :: rs, k, h => by
    unfold firstF at h
    split at h
    · rename_i z
      cases h
      exact ⟨[], r, rs, rfl, rfl, z⟩
    · cases e : firstF q rs with
      | none => rw [e] at h; cases h
      | some j =>
        rw [e] at h
        cases h
        obtain ⟨L1, p, L2, rfl, h2, h3⟩ := firstF_some e
        exact ⟨r :: L1, p, L2, rfl, by simp [h2], h3⟩
theorem firstF_none {q : Int} : ∀ {left : List (List Int)}, firstF q left = none → ∀ r ∈ left, nzq q (hd r) = false
  | r :: rs, h, x, hx => by
    unfold firstF at h
    split at h
    · cases h
    · rename_i z
      rcases List.mem_cons.mp hx with rfl | hx
      · simpa using z
      · refine firstF_none ?_ x hx
        cases e : firstF q rs with
        | none => rfl
        | some j => rw [e] at h; cases h
theorem split_take {α : Type} (L1 L2 : List α) (p : α) : (L1 ++ p :: L2).take L1.length ++ (L1 ++ p :: L2).drop (L1.length + 1) = L1 ++ L2 := by
  simp [List.take_append, List.drop_append]
theorem split_get {α : Type} (L1 L2 : List α) (p x : α) : (L1 ++ p :: L2).getD L1.length x = p := by
  simp [List.getD]
theorem crs_vec {p r : List Int} (h : p.length = r.length) (i : Nat) : vec (crs p r) i = vec r (i + 1) * hd p - vec p (i + 1) * hd r := by
  have gd : ∀ (l : List Int) (i : Nat), vec l.tail i = vec l (i + 1) := fun l i => by rw [← vec_tl]; rfl
  have hl : r.tail.length = p.tail.length := by simp [h]
  rw [← gd r, ← gd p]
  unfold crs
  generalize r.tail = a at hl
  generalize p.tail = b at hl
  unfold vec
  simp only [List.getD_eq_getElem?_getD, List.getElem?_zipWith]
  by_cases hi : i < a.length
  · have hb : i < b.length := by omega
    simp [hi, hb]
  · have hb : ¬ i < b.length := by omega
    simp [List.getElem?_eq_none (Nat.le_of_not_lt hi), List.getElem?_eq_none (Nat.le_of_not_lt hb)]
theorem crs_len {p r : List Int} (h : p.length = r.length) : (crs p r).length = r.length - 1 := by
  unfold crs
  rw [List.length_zipWith]
  simp [h]
theorem rk_mid (L1 L2 : List (List Int)) (p : List Int) : rk ((L1 ++ p :: L2).map vec) = rk (vec p :: (L1 ++ L2).map vec) := rk_mem fun a => by
  simp only [List.map_append, List.map_cons, List.mem_append, List.mem_cons]
  constructor
  · rintro (h | h | h) <;> simp [h]
  · rintro (h | h | h) <;> simp [h]
/-! ### modulo a number: at most the rank -/
def Cg (q : Int) (x : List Int × List Int) : Prop := x.1.length = x.2.length ∧ ∀ i, q ∣ vec x.1 i - vec x.2 i
theorem Cg.tl {q : Int} {x : List Int × List Int} (h : Cg q x) : Cg q (x.1.tail, x.2.tail) := by
  refine ⟨by simp [h.1], fun i => ?_⟩
  have := h.2 (i + 1)
  show q ∣ vec x.1.tail i - vec x.2.tail i
  rw [← vec_tl, ← vec_tl]
  exact this
theorem fmod_dvd (q n : Int) : q ∣ n.fmod q - n := ⟨- n.fdiv q, by have := Int.mul_fdiv_add_fmod n q; grind⟩
theorem vec_map {f : Int → Int} (h0 : f 0 = 0) (l : List Int) (i : Nat) : vec (l.map f) i = f (vec l i) := by
  unfold vec
  simp only [List.getD_eq_getElem?_getD, List.getElem?_map]
  cases l[i]? with
  | none => simp [h0]
  | some x => rfl
theorem Cg.clr {q last : Int} {x y : List Int × List Int} (hq : q ≠ 0) (hx : Cg q x) (hy : Cg q y) (hl : x.1.length = y.1.length) : Cg q (RK.clr q last x.1 y.1, crs x.2 y.2) := by
  refine ⟨?_, fun i => ?_⟩
  · show (RK.clr q last x.1 y.1).length = (crs x.2 y.2).length
    unfold RK.clr
    rw [List.length_map, crs_len hl, crs_len (by rw [← hx.1, ← hy.1]; exact hl), hy.1]
  · show q ∣ vec (RK.clr q last x.1 y.1) i - vec (crs x.2 y.2) i
    unfold RK.clr
    rw [vec_map (f := fun n => if q = 0 then n.fdiv last else n.fmod q) (by rw [if_neg hq]; exact Int.zero_fmod q), if_neg hq, crs_vec hl, crs_vec (by rw [← hx.1, ← hy.1]; exact hl)]
    obtain ⟨a, ha⟩ := hx.2 (i + 1)
    obtain ⟨b, hb⟩ := hx.2 0
    obtain ⟨c, hc⟩ := hy.2 (i + 1)
    obtain ⟨d, hd'⟩ := hy.2 0
    obtain ⟨e, he⟩ := fmod_dvd q (vec y.1 (i + 1) * hd x.1 - vec x.1 (i + 1) * hd y.1)
    rw [vec_hd, vec_hd] at hb hd'
    refine ⟨e + (c * hd x.1 + vec y.2 (i + 1) * b) - (a * hd y.1 + vec x.2 (i + 1) * d), ?_⟩
    have h1 : vec y.1 (i + 1) = vec y.2 (i + 1) + q * c := by omega
    have h2 : vec x.1 (i + 1) = vec x.2 (i + 1) + q * a := by omega
    have h3 : hd x.1 = hd x.2 + q * b := by omega
    have h4 : hd y.1 = hd y.2 + q * d := by omega
    have h5 : (vec y.1 (i + 1) * hd x.1 - vec x.1 (i + 1) * hd y.1).fmod q = (vec y.1 (i + 1) * hd x.1 - vec x.1 (i + 1) * hd y.1) + q * e := by omega
    rw [h5, h1, h2, h3, h4]
    grind
theorem cols_mod {q : Int} (hq : q ≠ 0) : ∀ (w pl : Nat) (L : List (List Int × List Int)) (last : Int), (∀ x ∈ L, Cg q x ∧ x.1.length = w) → (colsF q w pl (L.map Prod.fst) last).length ≤ rk ((L.map Prod.snd).map vec)
  | 0, pl, L, last, h => Nat.zero_le _
  | w + 1, pl, L, last, h => by
    unfold colsF
    cases e : firstF q (L.map Prod.fst) with
    | none =>
      dsimp only
      have := cols_mod hq w (pl + 1) (L.map fun x => (x.1.tail, x.2.tail)) last fun y hy => by
        obtain ⟨x, hx, rfl⟩ := List.mem_map.mp hy
        exact ⟨(h x hx).1.tl, by simp [(h x hx).2]⟩
      simp only [List.map_map] at this ⊢
      refine Nat.le_trans this ?_
      have h2 := rk_tl_le ((L.map Prod.snd).map vec)
      simp only [List.map_map] at h2
      have e3 : (tl ∘ vec ∘ Prod.snd : List Int × List Int → Vec) = (vec ∘ Prod.snd ∘ fun x => (x.1.tail, x.2.tail)) := funext fun x => vec_tl x.2
      rw [e3] at h2
      exact h2
    | some k =>
      dsimp only
      obtain ⟨L1, p, L2, hL, rfl, hn⟩ := firstF_some e
      obtain ⟨M1, M2', rfl, rfl, h3⟩ := List.map_eq_append_iff.mp hL
      obtain ⟨x, M2, rfl, rfl, rfl⟩ := List.map_eq_cons_iff.mp h3
      rw [hL, split_take, split_get]
      have hx := h x (by simp)
      have := cols_mod hq w (pl + 1) ((M1 ++ M2).map fun y => (clr q last x.1 y.1, crs x.2 y.2)) (hd x.1) fun y hy => by
        obtain ⟨z, hz, rfl⟩ := List.mem_map.mp hy
        have hz := h z (by rcases List.mem_append.mp hz with h | h <;> simp [h])
        refine ⟨hx.1.clr hq hz.1 (by rw [hx.2, hz.2]), ?_⟩
        show (clr q last x.1 z.1).length = w
        unfold clr
        rw [List.length_map, crs_len (by rw [hx.2, hz.2]), hz.2]
        rfl
      have e1 : ((M1 ++ M2).map fun y => (clr q last x.1 y.1, crs x.2 y.2)).map Prod.fst = (List.map Prod.fst M1 ++ List.map Prod.fst M2).map (clr q last x.1) := by
        simp [List.map_map, Function.comp_def]
      rw [e1] at this
      have e2 : rk ((List.map Prod.snd (M1 ++ x :: M2)).map vec) = rk (((M1 ++ M2).map fun y => (clr q last x.1 y.1, crs x.2 y.2)).map Prod.snd |>.map vec) + 1 := by
        have e0 : List.map Prod.snd (M1 ++ x :: M2) = M1.map Prod.snd ++ x.2 :: M2.map Prod.snd := by simp
        rw [e0, rk_mid, ← List.map_append, List.map_map, List.map_map, List.map_map]
        refine rk_elim ?_ fun z hz => ⟨1, by decide, fun i => ?_⟩
        · rw [vec_hd]
          intro h0
          have h1 := hx.1.2 0
          rw [vec_hd, vec_hd, h0, Int.sub_zero] at h1
          unfold nzq at hn
          rw [if_neg hq, Int.fmod_eq_zero_of_dvd h1] at hn
          exact absurd hn (by decide)
        · have hz := h z (by rcases List.mem_append.mp hz with h | h <;> simp [h])
          show 1 * vec (crs x.2 z.2) i = vec x.2 0 * vec z.2 (i + 1) - vec z.2 0 * vec x.2 (i + 1)
          rw [crs_vec (by rw [← hx.1.1, ← hz.1.1, hx.2, hz.2]), vec_hd, vec_hd]
          grind
      rw [e2, List.length_cons]
      omega
/-! ### by fractions: just the rank -/
def mat (ps : List Vec) (cs : List Nat) (pl w : Nat) (r : Vec) : List Int := (List.range' pl w).map fun c => bor ps cs r c
theorem mat_tl (ps : List Vec) (cs : List Nat) (pl w : Nat) (r : Vec) : (mat ps cs pl (w + 1) r).tail = mat ps cs (pl + 1) w r := by simp [mat, List.range'_succ]
theorem mat_hd (ps : List Vec) (cs : List Nat) (pl w : Nat) (r : Vec) : hd (mat ps cs pl (w + 1) r) = bor ps cs r pl := by simp [mat, List.range'_succ, hd]
theorem mat_len (ps : List Vec) (cs : List Nat) (pl w : Nat) (r : Vec) : (mat ps cs pl w r).length = w := by simp [mat]
theorem clr_mat {ps : List Vec} {cs : List Nat} {p : Vec} {pl : Nat} (w : Nat) (hu : Un ps cs) (hd0 : det ps cs ≠ 0) (hp : bor ps cs p pl ≠ 0) (r : Vec) :
    clr 0 (det ps cs) (mat ps cs pl (w + 1) p) (mat ps cs pl (w + 1) r) = mat (p :: ps) (pl :: cs) (pl + 1) w r ∧ ∀ i, det ps cs * vec (mat (p :: ps) (pl :: cs) (pl + 1) w r) i = vec (mat ps cs pl (w + 1) p) 0 * vec (mat ps cs pl (w + 1) r) (i + 1) - vec (mat ps cs pl (w + 1) r) 0 * vec (mat ps cs pl (w + 1) p) (i + 1) := by
  have hc : crs (mat ps cs pl (w + 1) p) (mat ps cs pl (w + 1) r) = (mat (p :: ps) (pl :: cs) (pl + 1) w r).map fun n => det ps cs * n := by
    unfold crs
    rw [mat_tl, mat_tl, mat_hd, mat_hd]
    unfold mat
    rw [List.zipWith_map, List.zipWith_self, List.map_map]
    refine List.map_congr_left fun c _ => ?_
    exact (bor_step hu hd0 hp r c).symm
  refine ⟨?_, fun i => ?_⟩
  · unfold clr
    rw [hc, List.map_map]
    conv => rhs; rw [← List.map_id (mat (p :: ps) (pl :: cs) (pl + 1) w r)]
    refine List.map_congr_left fun n _ => ?_
    show (if (0 : Int) = 0 then (det ps cs * n).fdiv (det ps cs) else (det ps cs * n).fmod 0) = n
    rw [if_pos rfl]
    exact Int.mul_fdiv_cancel_left n hd0
  · have h1 := crs_vec (p := mat ps cs pl (w + 1) p) (r := mat ps cs pl (w + 1) r) (by rw [mat_len, mat_len]) i
    rw [hc, vec_map (f := fun n => det ps cs * n) (by simp)] at h1
    rw [h1, vec_hd, vec_hd]
    grind
theorem cols_bar {b N : Nat} (hb : 1 ≤ b) (hN : dB b N < 2 ^ 9000) : ∀ (w pl : Nat) (ps : List Vec) (cs : List Nat) (O : List Vec), Un ps cs → det ps cs ≠ 0 → cs.length = ps.length → ps.length + O.length ≤ N → (∀ p ∈ ps, ∀ i, (p i).natAbs ≤ b) → (∀ p ∈ O, ∀ i, (p i).natAbs ≤ b) →
    (colsF 0 w pl (O.map (mat ps cs pl w)) (det ps cs)).length = rk ((O.map (mat ps cs pl w)).map vec) ∧ RunOk 0 w (O.map (mat ps cs pl w)) (det ps cs)
  | 0, pl, ps, cs, O, hu, hd0, hl, hn, hps, hO => ⟨(rk_zero fun a ha i => by
      obtain ⟨r, hr, rfl⟩ := List.mem_map.mp ha
      obtain ⟨o, _, rfl⟩ := List.mem_map.mp hr
      exact vec_nil (mat_len ..) i).symm, trivial⟩
  | w + 1, pl, ps, cs, O, hu, hd0, hl, hn, hps, hO => by
    have sm : ∀ r ∈ O.map (mat ps cs pl (w + 1)), r.length = w + 1 ∧ ∀ x ∈ r, Sm x := fun r hr => by
      obtain ⟨o, ho, rfl⟩ := List.mem_map.mp hr
      refine ⟨mat_len .., fun x hx => ?_⟩
      obtain ⟨c, _, rfl⟩ := List.mem_map.mp hx
      have h1 := bor_le hps (hO o ho) hl c
      have h2 : 1 ≤ O.length := List.length_pos_of_mem ho
      exact Nat.lt_of_le_of_lt (Nat.le_trans h1 (dB_mono hb (by omega))) hN
    have sd : Sm (det ps cs) := Nat.lt_of_le_of_lt (Nat.le_trans (det_le' hps cs hl) (dB_mono hb (by omega))) hN
    unfold colsF RunOk
    cases e : firstF 0 (O.map (mat ps cs pl (w + 1))) with
    | none =>
      dsimp only
      have hz := firstF_none e
      have e1 : (O.map (mat ps cs pl (w + 1))).map List.tail = O.map (mat ps cs (pl + 1) w) := by
        rw [List.map_map]
        exact List.map_congr_left fun r _ => mat_tl ..
      rw [e1]
      obtain ⟨h1, h2⟩ := cols_bar hb hN w (pl + 1) ps cs O hu hd0 hl hn hps hO
      refine ⟨?_, sm, ⟨hd0, sd⟩, h2⟩
      rw [h1, ← e1, ← rk_tl (A := (O.map (mat ps cs pl (w + 1))).map vec) fun a ha => ?_]
      · congr 1
        simp only [List.map_map]
        exact List.map_congr_left fun r _ => (vec_tl _).symm
      · obtain ⟨r, hr, rfl⟩ := List.mem_map.mp ha
        have := hz r hr
        rw [vec_hd]
        unfold nzq at this
        simpa using this
    | some k =>
      dsimp only
      obtain ⟨L1, p', L2, hL, rfl, hnz⟩ := firstF_some e
      obtain ⟨M1, M2', rfl, rfl, h3⟩ := List.map_eq_append_iff.mp hL
      obtain ⟨p, M2, rfl, rfl, rfl⟩ := List.map_eq_cons_iff.mp h3
      rw [hL, split_take, split_get]
      rw [hL] at sm
      have hp0 : bor ps cs p pl ≠ 0 := by
        unfold nzq at hnz
        rw [mat_hd] at hnz
        simpa using hnz
      have e1 : (M1.map (mat ps cs pl (w + 1)) ++ M2.map (mat ps cs pl (w + 1))).map (clr 0 (det ps cs) (mat ps cs pl (w + 1) p)) = (M1 ++ M2).map (mat (p :: ps) (pl :: cs) (pl + 1) w) := by
        rw [← List.map_append, List.map_map]
        exact List.map_congr_left fun r _ => (clr_mat w hu hd0 hp0 r).1
      rw [e1, mat_hd, ← det_bor]
      obtain ⟨h1, h2⟩ := cols_bar hb hN w (pl + 1) (p :: ps) (pl :: cs) (M1 ++ M2) (hu.step hd0 hp0) hp0 (by simp [hl]) (by simp at hn ⊢; omega) (fun q hq => by
        rcases List.mem_cons.mp hq with rfl | hq
        · exact hO q (by simp)
        · exact hps q hq) fun q hq => hO q (by rcases List.mem_append.mp hq with h | h <;> simp [h])
      refine ⟨?_, sm, ⟨hd0, sd⟩, h2⟩
      rw [List.length_cons, h1, rk_mid, ← List.map_append, List.map_map, List.map_map]
      exact (rk_elim (by rw [vec_hd, mat_hd]; exact hp0) fun r _ => ⟨det ps cs, hd0, (clr_mat w hu hd0 hp0 r).2⟩).symm
end RK

namespace RK
theorem hd_mem {l : List Int} (h : 0 < l.length) : hd l ∈ l := by
  cases l with
  | nil => cases h
  | cons x l => exact List.mem_cons_self ..
theorem run_mod {q : Int} (hq : 0 < q) (hs : Sm q) : ∀ (w : Nat) (left : List (List Int)) (last : Int), (∀ r ∈ left, r.length = w ∧ ∀ x ∈ r, Sm x) → last ≠ 0 ∧ Sm last → RunOk q w left last
  | 0, _, _, _, _ => trivial
  | w + 1, left, last, h, hl => by
    refine ⟨h, hl, ?_⟩
    cases e : firstF q left with
    | none =>
      dsimp only
      refine run_mod hq hs w _ last (fun r hr => ?_) hl
      obtain ⟨x, hx, rfl⟩ := List.mem_map.mp hr
      exact ⟨by simp [(h x hx).1], fun y hy => (h x hx).2 y (List.mem_of_mem_tail hy)⟩
    | some k =>
      dsimp only
      obtain ⟨L1, p, L2, hL, rfl, hn⟩ := firstF_some e
      have hp := h p (by rw [hL]; simp)
      rw [hL, split_take, split_get]
      refine run_mod hq hs w _ _ (fun r hr => ?_) ⟨fun z => ?_, hp.2 _ (hd_mem (by omega))⟩
      · obtain ⟨x, hx, rfl⟩ := List.mem_map.mp hr
        have hx := h x (by rw [hL]; rcases List.mem_append.mp hx with h | h <;> simp [h])
        refine ⟨?_, fun y hy => ?_⟩
        · unfold clr
          rw [List.length_map, crs_len (by rw [hx.1, hp.1]), hx.1]
          rfl
        · unfold clr at hy
          obtain ⟨n, _, rfl⟩ := List.mem_map.mp hy
          rw [if_neg (by omega)]
          have h1 := Int.fmod_nonneg_of_pos n hq
          have h2 := Int.fmod_lt_of_pos n hq
          have : (n.fmod q).natAbs ≤ q.natAbs := by omega
          exact Nat.lt_of_le_of_lt this hs
      · rw [z] at hn
        unfold nzq at hn
        rw [if_neg (by omega), Int.zero_fmod] at hn
        exact absurd hn (by decide)
def PRIME : Int := 2305843009213693951
theorem vec_len {l : List Int} {i : Nat} (h : l.length ≤ i) : vec l i = 0 := by
  unfold vec
  rw [List.getD_eq_getElem?_getD, List.getElem?_eq_none h]
  rfl
theorem mat_vec {r : List Int} {w : Nat} (h : r.length = w) : mat [] [] 0 w (vec r) = r := by
  unfold mat
  refine List.ext_getElem (by simp [h]) fun i h1 h2 => ?_
  simp only [List.getElem_map, List.getElem_range']
  show vec r (0 + 1 * i) * 1 - 0 = r[i]
  have : vec r i = r[i] := by
    unfold vec
    rw [List.getD_eq_getElem?_getD, List.getElem?_eq_getElem h2]
    rfl
  rw [Nat.one_mul, Nat.zero_add, this]
  omega
def indep (rows : List (List Int)) (w : Nat) : List Nat := if (colsF PRIME w 0 rows 1).length = (if w < rows.length then w else rows.length) then colsF PRIME w 0 rows 1 else colsF 0 w 0 rows 1
/-- sizes with which the elimination runs -/
structure RkOk (rows : List (List Int)) (w b : Nat) : Prop where
  wd : ∀ r ∈ rows, r.length = w
  bd : ∀ r ∈ rows, ∀ x ∈ r, x.natAbs ≤ b
  b1 : 1 ≤ b
  dB : dB b rows.length < 2 ^ 9000
theorem RkOk.bar {rows : List (List Int)} {w b : Nat} (h : RkOk rows w b) : (colsF 0 w 0 rows 1).length = rk (rows.map vec) ∧ RunOk 0 w rows 1 := by
  have e : (rows.map vec).map (mat [] [] 0 w) = rows := by
    rw [List.map_map]
    conv => rhs; rw [← List.map_id rows]
    exact List.map_congr_left fun r hr => mat_vec (h.wd r hr)
  have := cols_bar h.b1 h.dB w 0 [] [] (rows.map vec) Un.nil (by decide) rfl (by simp) (fun p hp => nomatch hp) fun p hp i => by
    obtain ⟨r, hr, rfl⟩ := List.mem_map.mp hp
    by_cases hi : r.length ≤ i
    · rw [vec_len hi]; exact Nat.zero_le _
    · unfold vec
      rw [List.getD_eq_getElem?_getD, List.getElem?_eq_getElem (by omega)]
      exact h.bd r hr _ (List.getElem_mem _)
  rw [e] at this
  exact this
theorem sm_prime : Sm PRIME := by unfold Sm PRIME; decide
theorem RkOk.mod {rows : List (List Int)} {w b : Nat} (h : RkOk rows w b) : (colsF PRIME w 0 rows 1).length ≤ rk (rows.map vec) ∧ RunOk PRIME w rows 1 := by
  have e1 : (rows.map fun r => (r, r)).map Prod.fst = rows := by simp [List.map_map, Function.comp_def]
  have e2 : (rows.map fun r => (r, r)).map Prod.snd = rows := by simp [List.map_map, Function.comp_def]
  have := cols_mod (q := PRIME) (by decide) w 0 (rows.map fun r => (r, r)) 1 fun x hx => by
    obtain ⟨r, hr, rfl⟩ := List.mem_map.mp hx
    exact ⟨⟨rfl, fun i => by rw [Int.sub_self]; exact Int.dvd_zero _⟩, h.wd r hr⟩
  rw [e1, e2] at this
  refine ⟨this, run_mod (by decide) sm_prime w rows 1 (fun r hr => ⟨h.wd r hr, fun x hx => ?_⟩) ⟨by decide, by unfold Sm; decide⟩⟩
  have h1 := h.bd r hr x hx
  have h2 : 1 ≤ rows.length := List.length_pos_of_mem hr
  have h3 := dB_mono h.b1 h2
  have h4 : RK.dB b 1 = b := by show 1 * (b * 1) = b; omega
  have h5 := h.dB
  unfold Sm
  omega
theorem indep_len {rows : List (List Int)} {w b : Nat} (h : RkOk rows w b) : (indep rows w).length = rk (rows.map vec) := by
  unfold indep
  have h1 := h.mod.1
  have h2 := rk_len (rows.map vec)
  have h3 := rk_width (A := rows.map vec) (w := w) fun a ha i hi => by
    obtain ⟨r, hr, rfl⟩ := List.mem_map.mp ha
    exact vec_len (by rw [h.wd r hr]; exact hi)
  rw [List.length_map] at h2
  have hm : rk (rows.map vec) ≤ (if w < rows.length then w else rows.length) := by split <;> assumption
  generalize (if w < rows.length then w else rows.length) = m at *
  by_cases e : (colsF PRIME w 0 rows 1).length = m
  · rw [if_pos e]
    omega
  · rw [if_neg e]
    exact h.bar.1
end RK

namespace VE
open PySem PySem.Spec PyProof.Rows L2 G0 RK
noncomputable section
def il (l : List Int) : D := .lst (l.map D.int)
def md (rows : List (List Int)) : List D := rows.map il
theorem seq_rt {f g : M Flow} {ρ ρ' : Rho} {r : RV} (h : f ρ = .ok (.rt r) ρ') : sSeq f g ρ = .ok (.rt r) ρ' := by
  unfold sSeq
  rw [h]
theorem for_rt {g : RV → M Unit} {body : M Flow} {d : D} {ds : List D} {ρ ρ1 ρ2 : Rho} {r : RV} (h1 : g (.val d) ρ = .ok () ρ1) (h2 : body ρ1 = .ok (.rt r) ρ2) : forL g body (d :: ds) ρ = .ok (.rt r) ρ2 := by
  unfold forL
  rw [bind_ok h1]
  simp only [h2]
theorem lc_map {α : Type} {g : RV → M Unit} {t : M Bool} {e : M RV} {vs : List Nat} {ρ : Rho} {enc out : α → D} : ∀ (src : List α), (∀ a ∈ src, ∃ ρ', turn g t e (enc a) ρ = .ok (some (out a)) ρ' ∧ wipeE ρ' vs = ρ) → lcL g t e vs (src.map enc) ρ = .ok (src.map out) ρ
  | [], _ => rfl
  | a :: src, h => by
    obtain ⟨ρ', h1, h2⟩ := h a (List.mem_cons_self ..)
    rw [List.map_cons, List.map_cons]
    refine lc_cons h1 ?_
    rw [h2]
    exact lc_map src fun b hb => h b (List.mem_cons_of_mem _ hb)
theorem lc_filter {α : Type} {g : RV → M Unit} {t : M Bool} {e : M RV} {vs : List Nat} {ρ : Rho} {enc : α → D} {out : α → Option D} : ∀ (src : List α), (∀ a ∈ src, ∃ ρ', turn g t e (enc a) ρ = .ok (out a) ρ' ∧ wipeE ρ' vs = ρ) → lcL g t e vs (src.map enc) ρ = .ok (src.filterMap out) ρ
  | [], _ => rfl
  | a :: src, h => by
    obtain ⟨ρ', h1, h2⟩ := h a (List.mem_cons_self ..)
    have ih := lc_filter src fun b hb => h b (List.mem_cons_of_mem _ hb)
    rw [List.map_cons]
    show M.bind (noexc (turn g t e (enc a))) _ ρ = _
    have n1 : noexc (turn g t e (enc a)) ρ = .ok (out a) ρ' := by unfold noexc; rw [h1]
    rw [bind_ok n1]
    show M.bind (lcL g t e vs (src.map enc)) _ (wipeE ρ' vs) = _
    rw [h2, bind_ok ih, List.filterMap_cons]
    cases out a <;> rfl
theorem cut_take {xs : List D} {k : Nat} (h : k ≤ xs.length) : cutD xs none (some (k : Int)) = xs.take k := by
  unfold cutD
  rw [HT.sIx_none, HT.sIx_nat, List.drop_zero, Nat.sub_zero, Nat.min_eq_left h]
theorem cut_drop {xs : List D} {k : Nat} (h : k ≤ xs.length) : cutD xs (some (k : Int)) none = xs.drop k := by
  unfold cutD
  rw [HT.sIx_none, HT.sIx_nat, Nat.min_eq_left h, List.take_of_length_le (by simp)]
theorem at_nat {xs : List D} {k : Nat} (h : k < xs.length) : L2.atI xs (k : Int) = some xs[k] := by
  unfold L2.atI ixN
  have : (0 : Int) ≤ k := Int.natCast_nonneg k
  rw [if_pos this, if_pos (by omega)]
  simp [h]
/-! ### first_place -/
def fpB : M Flow := (sIf (mB (mOp opNe (mIf (mB (mOp opEq (mPlF 1) (mVal (.int 0)))) (mOp opIx (mPlF 3) (mVal (.int 0))) (mOp opMod (mOp opIx (mPlF 3) (mVal (.int 0))) (mPlF 1))) (mVal (.int 0)))) (sRet (mPlF 2)) sNx)
theorem ix0 {x : Int} {l : List Int} : opIx (il (x :: l)) (.int 0) = some (.val (.int x)) := by
  show (L2.atI (D.int x :: l.map D.int) 0).map RV.val = _
  rw [at0]
  rfl
section
variable {q x : Int} {X : D} {s2 : Option Slot} {l : List Int} {i : Nat}
theorem fp_body : fpB [some (.val X), some (.val (.int q)), some (.val (.int i)), some (.val (il (x :: l)))] = if nzq q x = true then .ok (.rt (.val (.int i))) [some (.val X), some (.val (.int q)), some (.val (.int i)), some (.val (il (x :: l)))] else .ok .nx [some (.val X), some (.val (.int q)), some (.val (.int i)), some (.val (il (x :: l)))] := by
  have ix : mOp opIx (mPlF 3) (mVal (.int 0)) [some (.val X), some (.val (.int q)), some (.val (.int i)), some (.val (il (x :: l)))] = .ok (.val (.int x)) [some (.val X), some (.val (.int q)), some (.val (.int i)), some (.val (il (x :: l)))] := op_ok (f := mPlF 3) (g := mVal (.int 0)) rfl rfl rfl rfl ix0
  have hv : mIf (mB (mOp opEq (mPlF 1) (mVal (.int 0)))) (mOp opIx (mPlF 3) (mVal (.int 0))) (mOp opMod (mOp opIx (mPlF 3) (mVal (.int 0))) (mPlF 1)) [some (.val X), some (.val (.int q)), some (.val (.int i)), some (.val (il (x :: l)))] = .ok (.val (.int (if q = 0 then x else x.fmod q))) [some (.val X), some (.val (.int q)), some (.val (.int i)), some (.val (il (x :: l)))] := by
    have c1 : mB (mOp opEq (mPlF 1) (mVal (.int 0))) [some (.val X), some (.val (.int q)), some (.val (.int i)), some (.val (il (x :: l)))] = .ok (decide (q = 0)) [some (.val X), some (.val (.int q)), some (.val (.int i)), some (.val (il (x :: l)))] := B_ok (op_ok (f := mPlF 1) (g := mVal (.int 0)) rfl rfl rfl rfl opEq_int)
    by_cases z : q = 0
    · rw [if_pos z]
      rw [decide_eq_true z] at c1
      exact mIf_t c1 ix
    · rw [if_neg z]
      rw [decide_eq_false z] at c1
      exact mIf_f c1 (op_ok ix (g := mPlF 1) rfl rfl rfl (opMod_ok z))
  have c2 : mB (mOp opNe (mIf (mB (mOp opEq (mPlF 1) (mVal (.int 0)))) (mOp opIx (mPlF 3) (mVal (.int 0))) (mOp opMod (mOp opIx (mPlF 3) (mVal (.int 0))) (mPlF 1))) (mVal (.int 0))) [some (.val X), some (.val (.int q)), some (.val (.int i)), some (.val (il (x :: l)))] = .ok (nzq q x) [some (.val X), some (.val (.int q)), some (.val (.int i)), some (.val (il (x :: l)))] :=
    B_ok (op_ok hv (g := mVal (.int 0)) rfl rfl rfl rfl)
  refine if_ok c2 ?_
  cases nzq q x
  · rfl
  · exact ret_ok (f := mPlF 2) rfl rfl
theorem fp_loop : ∀ (left : List (List Int)) (i : Nat) (s2 s3 : Option Slot), (∀ r ∈ left, 0 < r.length) → ∃ ρ', forL (gT 2 (gCons (gNF 2) (gCons (gNF 3) gNil))) fpB (enumD i (md left)) [some (.val X), some (.val (.int q)), s2, s3] = match firstF q left with
    | none => .ok .nx ρ'
    | some k => .ok (.rt (.val (.int (i + k : Nat)))) ρ'
  | [], i, s2, s3, _ => ⟨_, rfl⟩
  | [] :: left, i, s2, s3, h => absurd (h [] (List.mem_cons_self ..)) (by decide)
  | (x :: l) :: left, i, s2, s3, h => by
    have b := fp_body (q := q) (x := x) (X := X) (l := l) (i := i)
    have e : md ((x :: l) :: left) = il (x :: l) :: md left := rfl
    rw [e]
    unfold firstF
    show ∃ ρ', forL _ fpB (.tup [.int (i : Nat), il (x :: l)] :: enumD (i + 1) (md left)) _ = _
    by_cases z : nzq q x = true
    · rw [if_pos z] at b
      refine ⟨[some (.val X), some (.val (.int q)), some (.val (.int i)), some (.val (il (x :: l)))], ?_⟩
      have : (if nzq q (hd (x :: l)) = true then some 0 else (firstF q left).map (· + 1)) = some 0 := if_pos z
      rw [this]
      exact for_rt (ρ1 := [some (.val X), some (.val (.int q)), some (.val (.int i)), some (.val (il (x :: l)))]) rfl b
    · rw [if_neg z] at b
      obtain ⟨ρ', ih⟩ := fp_loop left (i + 1) (some (.val (.int i))) (some (.val (il (x :: l)))) fun r hr => h r (List.mem_cons_of_mem _ hr)
      refine ⟨ρ', ?_⟩
      rw [for_cons (ρ1 := [some (.val X), some (.val (.int q)), some (.val (.int i)), some (.val (il (x :: l)))]) rfl b, ih]
      have : (if nzq q (hd (x :: l)) = true then some 0 else (firstF q left).map (· + 1)) = (firstF q left).map (· + 1) := if_neg z
      rw [this]
      cases firstF q left with
      | none => rfl
      | some k =>
        show Res.ok (Flow.rt (RV.val (D.int ((i + 1 + k : Nat) : Int)))) ρ' = Res.ok (Flow.rt (RV.val (D.int ((i + (k + 1) : Nat) : Int)))) ρ'
        rw [Nat.add_assoc, Nat.add_comm 1 k]
def opI : Option Nat → D
  | none => .non
  | some k => .int (k : Nat)
theorem ret_first {left : List (List Int)} (h : ∀ r ∈ left, 0 < r.length) : Ret F_first_place [.val (.lst (md left)), .val (.int q)] (.val (opI (firstF q left))) := by
  obtain ⟨ρ', e⟩ := fp_loop (X := .lst (md left)) (q := q) left 0 none none h
  have it : mEnum (mCons (mPlF 0) mNil) [some (.val (.lst (md left))), some (.val (.int q)), none, none] = .ok (enumD 0 (md left)) [some (.val (.lst (md left))), some (.val (.int q)), none, none] := enum_ok (t := true) (cons_ok (f := mPlF 0) rfl rfl) rfl
  refine ret_of ?_
  cases z : firstF q left with
  | none =>
    rw [z] at e
    exact rt_of (seq_nx (for_ok it e) (ret_ok (f := mVal .non) rfl rfl))
  | some k =>
    rw [z] at e
    dsimp only at e
    rw [Nat.zero_add] at e
    exact rt_of (seq_rt (for_ok it e))
end
/-! ### cleared -/
theorem zip_il : ∀ (a b : List Int), zipD (a.map D.int) (b.map D.int) = (List.zip a b).map fun x => .tup [.int x.1, .int x.2]
  | [], b => by cases b <;> rfl
  | _ :: _, [] => rfl
  | x :: a, y :: b => congrArg (D.tup [.int x, .int y] :: ·) (zip_il a b)
theorem zw_map {α : Type} (f : Int → Int → Int) (h : Int → α) : ∀ a b : List Int, ((List.zipWith f a b).map h) = (List.zip a b).map fun x => h (f x.1 x.2)
  | [], b => by cases b <;> rfl
  | _ :: _, [] => rfl
  | x :: a, y :: b => congrArg (h (f x y) :: ·) (zw_map f h a b)
theorem sm_log {x : Int} (h : Sm x) : x.natAbs.log2 < 9000 := by
  by_cases z : x.natAbs = 0
  · rw [z]; decide
  · exact (Nat.log2_lt z).mpr h
theorem opMul_sm {x y : Int} (hx : Sm x) (hy : Sm y) : opMul (.int x) (.int y) = some (.val (.int (x * y))) := by
  have h1 := sm_log hx
  have h2 := sm_log hy
  exact mul_ok (decide_eq_true (by omega))
theorem divOk_sm {x : Int} (h0 : x ≠ 0) (h : Sm x) : divOk x = true := decide_eq_true ⟨h0, sm_log h⟩
theorem slice1 {j : Nat} {x : Int} {l : List Int} {ρ : Rho} (h : mPlF j ρ = .ok (.val (il (x :: l))) ρ) : mSl (mPlF j) (mSome (mVal (.int 1))) mNo ρ = .ok (.own (.lst (l.map D.int))) ρ := by
  unfold mSl
  rw [bind_ok h]
  show fin3 (.val (il (x :: l))) (some 1) none ρ = _
  show (match opSl (il (x :: l)) (some 1) none with | some r => Res.ok r ρ | none => .bad) = _
  have e : opSl (il (x :: l)) (some 1) none = some (.own (.lst (l.map D.int))) := by
    show some (RV.own (Ob.lst (cutD ((x :: l).map D.int) (some ((1 : Nat) : Int)) none))) = _
    rw [cut_drop (by simp)]
    rfl
  rw [e]
theorem ret_cleared {q last : Int} {p r : List Int} (hr : 0 < r.length) (hp : 0 < p.length) (sr : ∀ x ∈ r, Sm x) (sp : ∀ x ∈ p, Sm x) (hd0 : last ≠ 0 ∧ Sm last) : Ret F_cleared [.val (il r), .val (il p), .val (.int last), .val (.int q)] (.own (.lst ((clr q last p r).map D.int))) := by
  cases r with
  | nil => cases hr
  | cons r0 r =>
  cases p with
  | nil => cases hp
  | cons p0 p =>
  have s0 : Sm p0 := sp p0 (List.mem_cons_self ..)
  have t0 : Sm r0 := sr r0 (List.mem_cons_self ..)
  generalize hA : il (r0 :: r) = A
  generalize hB : il (p0 :: p) = B
  have z1 : mZip (mCons (mSl (mPlF 0) (mSome (mVal (.int 1))) mNo) (mCons (mSl (mPlF 1) (mSome (mVal (.int 1))) mNo) mNil)) [some (.val A), some (.val B), some (.val (.int last)), some (.val (.int q)), none, none, none] = .ok ((List.zip r p).map fun x => .tup [.int x.1, .int x.2]) [some (.val A), some (.val B), some (.val (.int last)), some (.val (.int q)), none, none, none] := by
    subst hA hB
    unfold mZip
    rw [bind_ok (cons_ok (slice1 (j := 0) rfl) (cons_ok (g := mNil) (slice1 (j := 1) rfl) rfl)), ← zip_il]
    rfl
  have l1 : lcL (gT 2 (gCons (gNF 5) (gCons (gNF 6) gNil))) tt1 (mOp opSub (mOp opMul (mPlF 5) (mOp opIx (mPlF 1) (mVal (.int 0)))) (mOp opMul (mPlF 6) (mOp opIx (mPlF 0) (mVal (.int 0))))) [5, 6] ((List.zip r p).map fun x => .tup [.int x.1, .int x.2]) [some (.val A), some (.val B), some (.val (.int last)), some (.val (.int q)), none, none, none] =
      .ok ((List.zip r p).map fun x => .int (x.1 * p0 - x.2 * r0)) [some (.val A), some (.val B), some (.val (.int last)), some (.val (.int q)), none, none, none] := by
    refine lc_map _ fun x hx => ?_
    obtain ⟨m1, m2⟩ := List.of_mem_zip hx
    have e1 : opIx B (.int 0) = some (.val (.int p0)) := by rw [← hB]; exact ix0
    have e2 : opIx A (.int 0) = some (.val (.int r0)) := by rw [← hA]; exact ix0
    refine ⟨[some (.val A), some (.val B), some (.val (.int last)), some (.val (.int q)), none, some (.val (.int x.1)), some (.val (.int x.2))], ?_, rfl⟩
    exact turn_ok (ρ1 := [some (.val A), some (.val B), some (.val (.int last)), some (.val (.int q)), none, some (.val (.int x.1)), some (.val (.int x.2))]) rfl rfl
      (op_ok (op_ok (f := mPlF 5) rfl (op_ok (f := mPlF 1) (g := mVal (.int 0)) rfl rfl rfl rfl e1) rfl rfl (opMul_sm (sr _ (List.mem_cons_of_mem _ m1)) s0)) (op_ok (f := mPlF 6) rfl (op_ok (f := mPlF 0) (g := mVal (.int 0)) rfl rfl rfl rfl e2) rfl rfl (opMul_sm (sp _ (List.mem_cons_of_mem _ m2)) t0)) rfl rfl rfl) rfl
  have ec : ((List.zip r p).map fun x => D.int (x.1 * p0 - x.2 * r0)) = (crs (p0 :: p) (r0 :: r)).map D.int := by
    unfold crs
    rw [zw_map]
    rfl
  rw [ec] at l1
  generalize hcr : crs (p0 :: p) (r0 :: r) = cr at l1
  have cl : clr q last (p0 :: p) (r0 :: r) = cr.map fun n => if q = 0 then n.fdiv last else n.fmod q := by unfold clr; rw [hcr]
  rw [cl]
  have s1 := asg_val (g := gNF 4) (mLC_ok (vs := [5, 6]) (ρ := [some (.val A), some (.val B), some (.val (.int last)), some (.val (.int q)), none, none, none]) z1 l1) rfl
  have c1 : ∀ s4, mB (mOp opEq (mPlF 3) (mVal (.int 0))) [some (.val A), some (.val B), some (.val (.int last)), some (.val (.int q)), s4, none, none] = .ok (decide (q = 0)) [some (.val A), some (.val B), some (.val (.int last)), some (.val (.int q)), s4, none, none] := fun s4 => B_ok (op_ok (f := mPlF 3) (g := mVal (.int 0)) rfl rfl rfl rfl opEq_int)
  have c1 := c1 (some (.own (.lst (cr.map D.int))))
  refine ret_of ?_
  by_cases z : q = 0
  · rw [decide_eq_true z] at c1
    simp only [if_pos z]
    have l2 : lcL (gNF 5) tt1 (mOp opFdiv (mPlF 5) (mPlF 2)) [5] (cr.map D.int) [some (.val A), some (.val B), some (.val (.int last)), some (.val (.int q)), some (.val (.lst (cr.map D.int))), none, none] = .ok (cr.map fun n => .int (n.fdiv last)) [some (.val A), some (.val B), some (.val (.int last)), some (.val (.int q)), some (.val (.lst (cr.map D.int))), none, none] :=
      lc_map _ fun n _ => ⟨_, turn_ok (ρ1 := [some (.val A), some (.val B), some (.val (.int last)), some (.val (.int q)), some (.val (.lst (cr.map D.int))), some (.val (.int n)), none]) rfl rfl (op_ok (f := mPlF 5) (g := mPlF 2) rfl rfl rfl rfl (opFdiv_ok (divOk_sm hd0.1 hd0.2))) rfl, rfl⟩
    have q2 := mLC_ok (it := mIt (mPlF 4)) (vs := [5]) (ρ := [some (.val A), some (.val B), some (.val (.int last)), some (.val (.int q)), some (.own (.lst (cr.map D.int))), none, none]) rfl l2
    have q3 : ((cr.map fun n => n.fdiv last).map D.int) = cr.map fun n => .int (n.fdiv last) := by rw [List.map_map]; rfl
    rw [q3]
    exact rt_of (seq_nx s1 (seq_rt (if_ok c1 (ret_ok q2 rfl))))
  · rw [decide_eq_false z] at c1
    simp only [if_neg z]
    have l2 : lcL (gNF 5) tt1 (mOp opMod (mPlF 5) (mPlF 3)) [5] (cr.map D.int) [some (.val A), some (.val B), some (.val (.int last)), some (.val (.int q)), some (.val (.lst (cr.map D.int))), none, none] = .ok (cr.map fun n => .int (n.fmod q)) [some (.val A), some (.val B), some (.val (.int last)), some (.val (.int q)), some (.val (.lst (cr.map D.int))), none, none] :=
      lc_map _ fun n _ => ⟨_, turn_ok (ρ1 := [some (.val A), some (.val B), some (.val (.int last)), some (.val (.int q)), some (.val (.lst (cr.map D.int))), some (.val (.int n)), none]) rfl rfl (op_ok (f := mPlF 5) (g := mPlF 3) rfl rfl rfl rfl (opMod_ok z)) rfl, rfl⟩
    have q2 := mLC_ok (it := mIt (mPlF 4)) (vs := [5]) (ρ := [some (.val A), some (.val B), some (.val (.int last)), some (.val (.int q)), some (.own (.lst (cr.map D.int))), none, none]) rfl l2
    have q3 : ((cr.map fun n => n.fmod q).map D.int) = cr.map fun n => .int (n.fmod q) := by rw [List.map_map]; rfl
    rw [q3]
    exact rt_of (seq_nx s1 (seq_nx (if_ok c1 rfl) (ret_ok q2 rfl)))
end
end VE

namespace VE
open PySem PySem.Spec PyProof.Rows L2 G0 RK
noncomputable section
theorem rng1_ok {f : M (List RV)} {ρ ρ1 : Rho} {w : Nat} (h : f ρ = .ok [.val (.int (w : Nat))] ρ1) (hw : w ≤ 100000) : mRng1 f ρ = .ok ((List.range' 0 w).map fun i => .int (0 + (i : Nat))) ρ1 := by
  unfold mRng1
  rw [bind_ok h]
  have k : rngOk 0 ((w : Nat) : Int) = true := by
    refine decide_eq_true ⟨⟨by decide, by decide, ?_, ?_⟩, ?_⟩ <;> omega
  have e : rngs 0 ((w : Nat) : Int) = (List.range' 0 w).map fun i => .int (0 + (i : Nat)) := by
    unfold rngs
    have : (((w : Nat) : Int) - 0).toNat = w := by omega
    rw [this]
  show (if rngOk 0 ((w : Nat) : Int) = true then Res.ok (rngs 0 ((w : Nat) : Int)) ρ1 else .bad) = _
  rw [if_pos k, e]
end
end VE

namespace VE
open PySem PySem.Spec PyProof.Rows L2 G0 RK
noncomputable section
def cbB : M Flow := (sSeq (sAsg (mCall 2 [false, false] F_first_place (mCons (mPlF 2) (mCons (mPlF 1) mNil))) (gNF 7))
      (sIf (mB (mOp opIsN (mPlF 7) (mVal .non))) (sAsg (mLC (mIt (mPlF 2)) (gNF 5) tt1 (mSl (mPlF 5) (mSome (mVal (.int 1))) mNo) [5]) (gNF 2)) (sSeq (sAsg (mOp opIx (mPlF 2) (mPlF 7)) (gNF 8))
        (sSeq (sAsg (mLC (mIt (mOp opAdd (mSl (mPlF 2) mNo (mSome (mPlF 7))) (mSl (mPlF 2) (mSome (mOp opAdd (mPlF 7) (mVal (.int 1)))) mNo))) (gNF 5) tt1 (mCall 4 [false, false, false, false] F_cleared (mCons (mPlF 5) (mCons (mPlF 8) (mCons (mPlF 3) (mCons (mPlF 1) mNil))))) [5]) (gNF 2))
        (sSeq (sAsg (mOp opIx (mPlF 8) (mVal (.int 0))) (gNF 3))
        (sExp (mMut opAppend 4 (mCons (mPlF 6) mNil))))))))
abbrev stC (X : D) (q : Int) (left : List (List Int)) (last : Int) (acc : List D) (s6 s7 s8 : Option Slot) : Rho := [some (.val X), some (.val (.int q)), some (.own (.lst (md left))), some (.val (.int last)), some (.own (.lst acc)), none, s6, s7, s8]
abbrev stV (X : D) (q : Int) (left : List (List Int)) (last : Int) (acc : List D) (s6 s7 s8 : Option Slot) : Rho := [some (.val X), some (.val (.int q)), some (.val (.lst (md left))), some (.val (.int last)), some (.own (.lst acc)), none, s6, s7, s8]
abbrev stW (X : D) (q : Int) (left : List (List Int)) (last : Int) (acc : List D) (x : D) (s6 s7 s8 : Option Slot) : Rho := [some (.val X), some (.val (.int q)), some (.val (.lst (md left))), some (.val (.int last)), some (.own (.lst acc)), some (.val x), s6, s7, s8]
section
variable {q last : Int} {X : D} {left : List (List Int)} {acc : List D} {s6 s7 s8 : Option Slot}
theorem cb_none (hn : firstF q left = none) (h : ∀ r ∈ left, 0 < r.length) : cbB (stC X q left last acc s6 s7 s8) = .ok .nx (stC X q (left.map List.tail) last acc s6 (some (.val .non)) s8) := by
  obtain ⟨ρ1, e1⟩ := (ret_first (q := q) h).ex
  rw [hn] at e1
  have s1 : sAsg (mCall 2 [false, false] F_first_place (mCons (mPlF 2) (mCons (mPlF 1) mNil))) (gNF 7) (stC X q left last acc s6 s7 s8) = .ok .nx (stV X q left last acc s6 (some (.val .non)) s8) := asg_val (call_gen (ds := [.lst (md left), .int q]) rfl rfl e1 rfl rfl) rfl
  have l1 : lcL (gNF 5) tt1 (mSl (mPlF 5) (mSome (mVal (.int 1))) mNo) [5] (left.map il) (stV X q left last acc s6 (some (.val .non)) s8) = .ok (left.map fun r => il r.tail) (stV X q left last acc s6 (some (.val .non)) s8) := by
    refine lc_map _ fun r hr => ?_
    cases r with
    | nil => exact absurd (h [] hr) (by decide)
    | cons x l => exact ⟨_, turn_ok (ρ1 := stW X q left last acc (il (x :: l)) s6 (some (.val .non)) s8) rfl rfl (slice1 (j := 5) rfl) rfl, rfl⟩
  have q1 := mLC_ok (it := mIt (mPlF 2)) (vs := [5]) (ρ := stV X q left last acc s6 (some (.val .non)) s8) rfl l1
  have e3 : (left.map fun r => il r.tail) = md (left.map List.tail) := by unfold md; rw [List.map_map]; rfl
  rw [e3] at q1
  have c1 : mB (mOp opIsN (mPlF 7) (mVal .non)) (stV X q left last acc s6 (some (.val .non)) s8) = .ok true (stV X q left last acc s6 (some (.val .non)) s8) := B_ok (op_ok (f := mPlF 7) (g := mVal .non) rfl rfl rfl rfl rfl)
  exact seq_nx s1 (if_ok c1 (asg_val q1 rfl))
theorem append_ok {i : Nat} {f : M (List RV)} {ρ : Rho} {d : D} {xs : List D} (hs : ρ[i]? = some (some (.own (.lst xs)))) (h1 : f ρ = .ok [.val d] ρ) (hz : xs.length < sizeLine) : mMut opAppend i f ρ = .ok (.val .non) (ρ.set i (some (.own (.lst (xs ++ [d]))))) := by
  unfold mMut
  have hl : holdsL i ρ = true := by unfold holdsL; rw [hs]
  rw [if_pos hl, bind_ok h1, bind_ok (m := settle [RV.val d]) (a := [d]) (ρ1 := ρ) rfl]
  unfold finM
  rw [hs]
  dsimp only
  have : opAppend (.lst xs) [d] = some (.lst (xs ++ [d]), .non) := if_pos (decide_eq_true hz)
  rw [this]
theorem cb_some {k : Nat} {p : List Int} {L1 L2 : List (List Int)} {pl : Int} (hn : firstF q left = some k) (hL : left = L1 ++ p :: L2) (hk : L1.length = k) (h : ∀ r ∈ left, 0 < r.length ∧ ∀ x ∈ r, Sm x) (hd0 : last ≠ 0 ∧ Sm last) (hz : left.length ≤ sizeLine) (ha : acc.length < sizeLine) :
    cbB (stC X q left last acc (some (.val (.int pl))) s7 s8) = .ok .nx (stC X q ((L1 ++ L2).map (clr q last p)) (hd p) (acc ++ [.int pl]) (some (.val (.int pl))) (some (.val (.int k))) (some (.val (il p)))) := by
  obtain ⟨ρ1, e1⟩ := (ret_first (q := q) fun r hr => (h r hr).1).ex
  rw [hn] at e1
  have s1 : sAsg (mCall 2 [false, false] F_first_place (mCons (mPlF 2) (mCons (mPlF 1) mNil))) (gNF 7) (stC X q left last acc (some (.val (.int pl))) s7 s8) = .ok .nx (stV X q left last acc (some (.val (.int pl))) (some (.val (.int k))) s8) := asg_val (call_gen (ds := [.lst (md left), .int q]) rfl rfl e1 rfl rfl) rfl
  have c1 : mB (mOp opIsN (mPlF 7) (mVal .non)) (stV X q left last acc (some (.val (.int pl))) (some (.val (.int k))) s8) = .ok false (stV X q left last acc (some (.val (.int pl))) (some (.val (.int k))) s8) := B_ok (op_ok (f := mPlF 7) (g := mVal .non) rfl rfl rfl rfl rfl)
  have lk : k < (md left).length := by unfold md; rw [List.length_map, hL, ← hk]; simp
  have g1 : opIx (.lst (md left)) (.int (k : Int)) = some (.val (il p)) := by
    rw [opIx_lst, at_nat lk]
    show some (RV.val ((left.map il)[k])) = _
    congr 2
    subst hL hk
    simp
  have hp := h p (by rw [hL]; simp)
  have s2 : sAsg (mOp opIx (mPlF 2) (mPlF 7)) (gNF 8) (stV X q left last acc (some (.val (.int pl))) (some (.val (.int k))) s8) = .ok .nx (stV X q left last acc (some (.val (.int pl))) (some (.val (.int k))) (some (.val (il p)))) := asg_val (op_ok (f := mPlF 2) (g := mPlF 7) rfl rfl rfl rfl g1) rfl
  have t1 : mSl (mPlF 2) mNo (mSome (mPlF 7)) (stV X q left last acc (some (.val (.int pl))) (some (.val (.int k))) (some (.val (il p)))) = .ok (.own (.lst (L1.map il))) (stV X q left last acc (some (.val (.int pl))) (some (.val (.int k))) (some (.val (il p)))) := by
    show Res.ok (RV.own (Ob.lst (cutD (md left) none (some (k : Int))))) _ = _
    rw [cut_take (Nat.le_of_lt lk)]
    unfold md
    subst hL hk
    simp
  have t2 : mSl (mPlF 2) (mSome (mOp opAdd (mPlF 7) (mVal (.int 1)))) mNo (stV X q left last acc (some (.val (.int pl))) (some (.val (.int k))) (some (.val (il p)))) = .ok (.own (.lst (L2.map il))) (stV X q left last acc (some (.val (.int pl))) (some (.val (.int k))) (some (.val (il p)))) := by
    show Res.ok (RV.own (Ob.lst (cutD (md left) (some ((k + 1 : Nat) : Int)) none))) _ = _
    rw [cut_drop lk]
    unfold md
    subst hL hk
    simp [List.drop_append]
  have t3 : mIt (mOp opAdd (mSl (mPlF 2) mNo (mSome (mPlF 7))) (mSl (mPlF 2) (mSome (mOp opAdd (mPlF 7) (mVal (.int 1)))) mNo)) (stV X q left last acc (some (.val (.int pl))) (some (.val (.int k))) (some (.val (il p)))) = .ok ((L1 ++ L2).map il) (stV X q left last acc (some (.val (.int pl))) (some (.val (.int k))) (some (.val (il p)))) := by
    refine it_own (op_ok t1 t2 rfl rfl ?_)
    show (if szOk ((L1.map il).length + (L2.map il).length) then _ else _) = _
    rw [if_pos (decide_eq_true (by rw [hL] at hz; simp at hz ⊢; omega)), List.map_append]
  have l1 : lcL (gNF 5) tt1 (mCall 4 [false, false, false, false] F_cleared (mCons (mPlF 5) (mCons (mPlF 8) (mCons (mPlF 3) (mCons (mPlF 1) mNil))))) [5] ((L1 ++ L2).map il) (stV X q left last acc (some (.val (.int pl))) (some (.val (.int k))) (some (.val (il p)))) =
      .ok ((L1 ++ L2).map fun r => il (clr q last p r)) (stV X q left last acc (some (.val (.int pl))) (some (.val (.int k))) (some (.val (il p)))) := by
    refine lc_map _ fun r hr => ?_
    have hr := h r (by rw [hL]; rcases List.mem_append.mp hr with h | h <;> simp [h])
    obtain ⟨ρ2, e2⟩ := (ret_cleared (q := q) hr.1 hp.1 hr.2 hp.2 hd0).ex
    exact ⟨_, turn_ok (ρ1 := stW X q left last acc (il r) (some (.val (.int pl))) (some (.val (.int k))) (some (.val (il p)))) rfl rfl (call_gen (ds := [il r, il p, .int last, .int q]) rfl rfl e2 rfl rfl) rfl, rfl⟩
  have q1 := mLC_ok (vs := [5]) (ρ := stV X q left last acc (some (.val (.int pl))) (some (.val (.int k))) (some (.val (il p)))) t3 l1
  have e3 : ((L1 ++ L2).map fun r => il (clr q last p r)) = md ((L1 ++ L2).map (clr q last p)) := by unfold md; rw [List.map_map]; rfl
  rw [e3] at q1
  generalize (L1 ++ L2).map (clr q last p) = new at *
  have hp0 : opIx (il p) (.int 0) = some (.val (.int (hd p))) := by
    cases p with
    | nil => cases hp.1
    | cons x l => exact ix0
  have s4 : sAsg (mOp opIx (mPlF 8) (mVal (.int 0))) (gNF 3) (stC X q new last acc (some (.val (.int pl))) (some (.val (.int k))) (some (.val (il p)))) = .ok .nx (stC X q new (hd p) acc (some (.val (.int pl))) (some (.val (.int k))) (some (.val (il p)))) := asg_val (op_ok (f := mPlF 8) (g := mVal (.int 0)) rfl rfl rfl rfl hp0) rfl
  exact seq_nx s1 (if_ok c1 (seq_nx s2 (seq_nx (asg_val q1 rfl) (seq_nx s4 (exp_ok (append_ok (i := 4) (f := mCons (mPlF 6) mNil) rfl rfl ha))))))
end
theorem cb_loop {q : Int} {X : D} : ∀ (w pl : Nat) (left : List (List Int)) (last : Int) (acc : List D) (s6 s7 s8 : Option Slot), RunOk q w left last → left.length ≤ 1000 → acc.length + w ≤ 1000 →
    ∃ left' last' s6' s7' s8', forL (gNF 6) cbB ((List.range' pl w).map fun i => .int (0 + (i : Nat))) (stC X q left last acc s6 s7 s8) = .ok .nx (stC X q left' last' (acc ++ (colsF q w pl left last).map fun n => .int (n : Nat)) s6' s7' s8')
  | 0, pl, left, last, acc, s6, s7, s8, _, _, _ => ⟨left, last, s6, s7, s8, by unfold colsF; rw [List.map_nil, List.append_nil]; rfl⟩
  | w + 1, pl, left, last, acc, s6, s7, s8, ok, hz, ha => by
    obtain ⟨h1, h2, h3⟩ := ok
    have e : ((List.range' pl (w + 1)).map fun i => D.int (0 + (i : Nat))) = .int (0 + (pl : Nat)) :: (List.range' (pl + 1) w).map fun i => D.int (0 + (i : Nat)) := by rw [List.range'_succ]; rfl
    rw [e]
    unfold colsF
    have z0 : (0 : Int) + (pl : Nat) = (pl : Nat) := Int.zero_add _
    rw [z0]
    cases z : firstF q left with
    | none =>
      rw [z] at h3
      dsimp only at h3 ⊢
      obtain ⟨left', last', s6', s7', s8', ih⟩ := cb_loop w (pl + 1) (left.map List.tail) last acc (some (.val (.int (pl : Nat)))) (some (.val .non)) s8 h3 (by simpa using hz) (by omega)
      refine ⟨left', last', s6', s7', s8', ?_⟩
      rw [for_cons (ρ1 := stC X q left last acc (some (.val (.int (pl : Nat)))) s7 s8) rfl (cb_none z fun r hr => by rw [(h1 r hr).1]; exact Nat.succ_pos _)]
      exact ih
    | some k =>
      rw [z] at h3
      dsimp only at h3 ⊢
      obtain ⟨L1, p, L2, hL, hk, _⟩ := firstF_some z
      have ht : left.take k ++ left.drop (k + 1) = L1 ++ L2 := by rw [hL, ← hk]; exact split_take L1 L2 p
      have hg : left.getD k [] = p := by rw [hL, ← hk]; exact split_get L1 L2 p []
      rw [ht, hg] at h3 ⊢
      obtain ⟨left', last', s6', s7', s8', ih⟩ := cb_loop w (pl + 1) ((L1 ++ L2).map (clr q last p)) (hd p) (acc ++ [.int (pl : Nat)]) (some (.val (.int (pl : Nat)))) (some (.val (.int k))) (some (.val (il p))) h3 (by rw [hL] at hz; simp at hz ⊢; omega) (by simp; omega)
      refine ⟨left', last', s6', s7', s8', ?_⟩
      rw [for_cons (ρ1 := stC X q left last acc (some (.val (.int (pl : Nat)))) s7 s8) rfl (cb_some z hL hk (fun r hr => ⟨by rw [(h1 r hr).1]; exact Nat.succ_pos _, (h1 r hr).2⟩) h2 (Nat.le_trans hz (by decide)) (Nat.lt_of_le_of_lt (by omega : acc.length ≤ 1000) (by decide))), ih, List.map_cons, List.append_assoc]
      rfl
theorem ret_columns {q : Int} {rows : List (List Int)} {w : Nat} (h0 : 0 < rows.length) (hw : ∀ r ∈ rows, r.length = w) (ok : RunOk q w rows 1) (hz : rows.length ≤ 1000) (hw2 : w ≤ 1000) :
    Ret F_columns_by [.val (.lst (md rows)), .val (.int q)] (.own (.lst ((colsF q w 0 rows 1).map fun n => .int (n : Nat)))) := by
  obtain ⟨left', last', s6', s7', s8', e⟩ := cb_loop (q := q) (X := .lst (md rows)) w 0 rows 1 [] none none none ok hz (by simpa using hw2)
  rw [List.nil_append] at e
  have l1 : lcL (gNF 5) tt1 (mC bList (mCons (mPlF 5) mNil)) [5] (rows.map il) [some (.val (.lst (md rows))), some (.val (.int q)), none, none, none, none, none, none, none] = .ok (rows.map il) [some (.val (.lst (md rows))), some (.val (.int q)), none, none, none, none, none, none, none] :=
    lc_map _ fun r _ => ⟨_, turn_ok (ρ1 := [some (.val (.lst (md rows))), some (.val (.int q)), none, none, none, some (.val (il r)), none, none, none]) rfl rfl (C_ok (cons_ok (f := mPlF 5) rfl rfl) rfl rfl) rfl, rfl⟩
  have q1 := mLC_ok (it := mIt (mPlF 0)) (vs := [5]) (ρ := [some (.val (.lst (md rows))), some (.val (.int q)), none, none, none, none, none, none, none]) rfl l1
  have s1 : sParO [2, 3, 4] (mConsO (mLC (mIt (mPlF 0)) (gNF 5) tt1 (mC bList (mCons (mPlF 5) mNil)) [5]) (mConsO (mVal (.int 1)) (mConsO (mLst mNil) mNil))) [some (.val (.lst (md rows))), some (.val (.int q)), none, none, none, none, none, none, none] = .ok .nx (stC (.lst (md rows)) q rows 1 [] none none none) :=
    parO_ok (is := [2, 3, 4]) (consO_own q1 rfl) rfl
  obtain ⟨r0, rs, rfl⟩ : ∃ r0 rs, rows = r0 :: rs := by
    cases rows with
    | nil => cases h0
    | cons r0 rs => exact ⟨r0, rs, rfl⟩
  have c1 : mT (mPlF 0) (stC (.lst (md (r0 :: rs))) q (r0 :: rs) 1 [] none none none) = .ok true (stC (.lst (md (r0 :: rs))) q (r0 :: rs) 1 [] none none none) := rfl
  have g1 : opIx (.lst (md (r0 :: rs))) (.int 0) = some (.val (il r0)) := by
    show (L2.atI (il r0 :: md rs) 0).map RV.val = _
    rw [at0]
    rfl
  have g2 : bLen [il r0] = some (.val (.int (w : Nat))) := by
    show some (RV.val (D.int ((r0.map D.int).length : Nat))) = _
    rw [List.length_map, hw r0 (List.mem_cons_self ..)]
  have i1 : mIf (mT (mPlF 0)) (mC bLen (mCons (mOp opIx (mPlF 0) (mVal (.int 0))) mNil)) (mVal (.int 0)) (stC (.lst (md (r0 :: rs))) q (r0 :: rs) 1 [] none none none) = .ok (.val (.int (w : Nat))) (stC (.lst (md (r0 :: rs))) q (r0 :: rs) 1 [] none none none) :=
    mIf_t c1 (C_ok (cons_ok (op_ok (f := mPlF 0) (g := mVal (.int 0)) rfl rfl rfl rfl g1) rfl) rfl g2)
  have it : mRng1 (mCons (mIf (mT (mPlF 0)) (mC bLen (mCons (mOp opIx (mPlF 0) (mVal (.int 0))) mNil)) (mVal (.int 0))) mNil) (stC (.lst (md (r0 :: rs))) q (r0 :: rs) 1 [] none none none) = .ok ((List.range' 0 w).map fun i => .int (0 + (i : Nat))) (stC (.lst (md (r0 :: rs))) q (r0 :: rs) 1 [] none none none) := rng1_ok (cons_ok (g := mNil) i1 rfl) (by omega)
  exact ret_of (rt_of (seq_nx s1 (seq_nx (for_ok it e) (ret_ok (f := mPlF 4) rfl rfl))))
end
end VE

namespace VE
open PySem PySem.Spec PyProof.Rows L2 G0 RK
noncomputable section
theorem ret_independent {rows : List (List Int)} {w b : Nat} (h : RkOk rows w b) (h0 : 0 < rows.length) (hz : rows.length ≤ 1000) (hw2 : w ≤ 1000) : Ret F_independent_columns [.val (.lst (md rows))] (.own (.lst ((indep rows w).map fun n => .int (n : Nat)))) := by
  obtain ⟨ρ1, e1⟩ := (ret_columns (q := PRIME) h0 h.wd h.mod.2 hz hw2).ex
  obtain ⟨ρ2, e2⟩ := (ret_columns (q := 0) h0 h.wd h.bar.2 hz hw2).ex
  obtain ⟨r0, rs, rfl⟩ : ∃ r0 rs, rows = r0 :: rs := by
    cases rows with
    | nil => cases h0
    | cons r0 rs => exact ⟨r0, rs, rfl⟩
  generalize hX : D.lst (md (r0 :: rs)) = X at *
  have g1 : opIx X (.int 0) = some (.val (il r0)) := by
    rw [← hX]
    show (L2.atI (il r0 :: md rs) 0).map RV.val = _
    rw [at0]
    rfl
  have g2 : bLen [il r0] = some (.val (.int (w : Nat))) := by
    show some (RV.val (D.int ((r0.map D.int).length : Nat))) = _
    rw [List.length_map, h.wd r0 (List.mem_cons_self ..)]
  have g3 : bLen [X] = some (.val (.int ((r0 :: rs).length : Nat))) := by
    rw [← hX]
    show some (RV.val (D.int ((md (r0 :: rs)).length : Nat))) = _
    unfold md
    rw [List.length_map]
  have c1 : mT (mPlF 0) [some (.val X), none, none] = .ok true [some (.val X), none, none] := by rw [← hX]; rfl
  have b1 : bMin [.int ((r0 :: rs).length : Nat), .int (w : Nat)] = some (.val (.int ((if w < (r0 :: rs).length then w else (r0 :: rs).length : Nat) : Int))) := by
    show some (RV.val (D.int (if ((w : Nat) : Int) < ((r0 :: rs).length : Nat) then ((w : Nat) : Int) else ((r0 :: rs).length : Nat)))) = _
    by_cases z : w < (r0 :: rs).length
    · rw [if_pos z, if_pos (by omega)]
    · rw [if_neg z, if_neg (by omega)]
  have s1 := asg_val (g := gNF 1) (mIf_t (g := mVal (.int 0)) c1 (C_ok (c := bMin) (cons_ok (C_ok (c := bLen) (cons_ok (f := mPlF 0) (g := mNil) rfl rfl) rfl g3) (cons_ok (g := mNil) (C_ok (c := bLen) (cons_ok (g := mNil) (op_ok (f := mPlF 0) (g := mVal (.int 0)) rfl rfl rfl rfl g1) rfl) rfl g2) rfl)) rfl b1)) rfl
  generalize hm : (if w < (r0 :: rs).length then w else (r0 :: rs).length : Nat) = m at *
  generalize hA : (colsF PRIME w 0 (r0 :: rs) 1) = A at *
  have s2 : sAsg (mCall 2 [false, false] F_columns_by (mCons (mPlF 0) (mCons (mVal (.int 2305843009213693951)) mNil))) (gNF 2) [some (.val X), some (.val (.int (m : Nat))), none] = .ok .nx [some (.val X), some (.val (.int (m : Nat))), some (.own (.lst (A.map fun n => .int (n : Nat))))] :=
    asg_val (call_gen (ds := [X, .int 2305843009213693951]) rfl rfl e1 rfl rfl) rfl
  have c2 : mB (mOp opEq (mC bLen (mCons (mPlF 2) mNil)) (mPlF 1)) [some (.val X), some (.val (.int (m : Nat))), some (.own (.lst (A.map fun n => .int (n : Nat))))] = .ok (decide (A.length = m)) [some (.val X), some (.val (.int (m : Nat))), some (.own (.lst (A.map fun n => .int (n : Nat))))] := by
    have g4 : bLen [.lst (A.map fun n => D.int (n : Nat))] = some (.val (.int (A.length : Nat))) := by
      show some (RV.val (D.int ((A.map fun n => D.int (n : Nat)).length : Nat))) = _
      rw [List.length_map]
    refine B_ok (op_ok (g := mPlF 1) (C_ok (c := bLen) (cons_ok (f := mPlF 2) (g := mNil) rfl rfl) rfl g4) rfl rfl rfl ?_)
    rw [opEq_int]
    congr 3
    exact decide_eq_decide.mpr (by omega)
  refine ret_of ?_
  unfold indep
  rw [hA, hm]
  by_cases z : A.length = m
  · rw [decide_eq_true z] at c2
    rw [if_pos z]
    exact rt_of (seq_nx s1 (seq_nx s2 (ret_ok (mIf_t c2 (f := mPlF 2) rfl) rfl)))
  · rw [decide_eq_false z] at c2
    rw [if_neg z]
    exact rt_of (seq_nx s1 (seq_nx s2 (ret_ok (mIf_f c2 (call_gen (ds := [X, .int 0]) rfl rfl e2 rfl rfl)) rfl)))
theorem ret_rank {rows : List (List Int)} {w b : Nat} (h : RkOk rows w b) (h0 : 0 < rows.length) (hz : rows.length ≤ 1000) (hw2 : w ≤ 1000) : Ret F_rank [.val (.lst (md rows))] (.val (.int (rk (rows.map vec) : Nat))) := by
  obtain ⟨ρ1, e1⟩ := (ret_independent h h0 hz hw2).ex
  have g4 : bLen [.lst ((indep rows w).map fun n => D.int (n : Nat))] = some (.val (.int (rk (rows.map vec) : Nat))) := by
    show some (RV.val (D.int (((indep rows w).map fun n => D.int (n : Nat)).length : Nat))) = _
    rw [List.length_map, indep_len h]
  exact ret_of (rt_of (ret_ok (C_ok (c := bLen) (cons_ok (g := mNil) (call_gen (ds := [.lst (md rows)]) rfl rfl e1 rfl rfl) rfl) rfl g4) rfl))
end
end VE

set_option exponentiation.threshold 10000
namespace VE
open PySem PySem.Spec PyProof.Rows L2 G0 RK
noncomputable section
/-! ### powers -/
def pows (x : Int) (n : Nat) : List Int := (List.range (n + 1)).map fun i => x ^ i
theorem pows_succ (x : Int) (n : Nat) : pows x (n + 1) = pows x n ++ [x ^ n * x] := by
  unfold pows
  rw [List.range_succ (n := n + 1), List.map_append]
  simp [Int.pow_succ]
theorem at_last {xs : List D} {a : D} : L2.atI (xs ++ [a]) (-1) = some a := by
  unfold L2.atI ixN
  rw [if_neg (by decide)]
  simp only [List.length_append, List.length_cons, List.length_nil]
  rw [if_pos (by omega)]
  have e : ((-1 : Int) + ((xs.length + (0 + 1) : Nat) : Int)).toNat = xs.length := by omega
  rw [e]
  simp
theorem ix_last {xs : List D} {a : D} : opIx (.lst (xs ++ [a])) (.int (-1)) = some (.val a) := by
  show (L2.atI (xs ++ [a]) (-1)).map RV.val = _
  rw [at_last]
  rfl
theorem sm_of {x : Int} {b : Nat} (h : x.natAbs ≤ b) (hb : b < 2 ^ 9000) : Sm x := Nat.lt_of_le_of_lt h hb
theorem pow_le {x : Int} {c i d : Nat} (h : x.natAbs ≤ c) (hc : 1 ≤ c) (hi : i ≤ d) : (x ^ i).natAbs ≤ c ^ d := by
  rw [Int.natAbs_pow]
  exact Nat.le_trans (Nat.pow_le_pow_left h i) (Nat.pow_le_pow_right hc hi)
def pwB : M Flow := (sExp (mMut opAppend 2 (mCons (mOp opMul (mOp opIx (mPlF 2) (mUn opNeg (mVal (.int 1)))) (mPlF 0)) mNil)))
theorem pw_loop {x : Int} {Y : D} (hx : x.natAbs ≤ 2 ^ 200) : ∀ (n k : Nat) (s3 : Option Slot) (ds : List D), k + n ≤ 12 → ds.length = n → ∃ s3', forL (gNF 3) pwB ds [some (.val (.int x)), some (.val Y), some (.own (.lst ((pows x k).map D.int))), s3] =
    .ok .nx [some (.val (.int x)), some (.val Y), some (.own (.lst ((pows x (k + n)).map D.int))), s3']
  | 0, k, s3, ds, h, hl => by
    rw [List.length_eq_zero_iff.mp hl]
    exact ⟨s3, rfl⟩
  | n + 1, k, s3, ds, h, hl => by
    cases ds with
    | nil => cases hl
    | cons d ds =>
    obtain ⟨s3', ih⟩ := pw_loop (Y := Y) hx n (k + 1) (some (.val d)) ds (by omega) (by simpa using hl)
    refine ⟨s3', ?_⟩
    have e1 : pows x k = (List.range k).map (fun i => x ^ i) ++ [x ^ k] := by unfold pows; rw [List.range_succ, List.map_append]; rfl
    have m1 : mOp opIx (mPlF 2) (mUn opNeg (mVal (.int 1))) [some (.val (.int x)), some (.val Y), some (.own (.lst ((pows x k).map D.int))), some (.val d)] = .ok (.val (.int (x ^ k))) [some (.val (.int x)), some (.val Y), some (.own (.lst ((pows x k).map D.int))), some (.val d)] := by
      refine op_ok (f := mPlF 2) (g := mUn opNeg (mVal (.int 1))) (r1 := .pl 2) rfl (r2 := .val (.int (-1))) rfl rfl rfl ?_
      show opIx (.lst ((pows x k).map D.int)) (.int (-1)) = _
      rw [e1, List.map_append]
      exact ix_last
    have hk : Sm (x ^ k) := sm_of (pow_le (d := 12) hx (by decide) (by omega)) (by decide)
    have m2 := opMul_sm hk (sm_of (x := x) hx (by decide))
    have b : pwB [some (.val (.int x)), some (.val Y), some (.own (.lst ((pows x k).map D.int))), some (.val d)] = .ok .nx [some (.val (.int x)), some (.val Y), some (.own (.lst ((pows x (k + 1)).map D.int))), some (.val d)] := by
      rw [pows_succ, List.map_append]
      refine exp_ok (append_ok (i := 2) (d := .int (x ^ k * x)) rfl (cons_ok (g := mNil) (op_ok m1 (g := mPlF 0) rfl rfl rfl m2) rfl) ?_)
      rw [List.length_map]
      unfold pows
      rw [List.length_map, List.length_range]
      exact Nat.lt_of_le_of_lt (by omega : k + 1 ≤ 13) (by decide)
    rw [for_cons (ρ1 := [some (.val (.int x)), some (.val Y), some (.own (.lst ((pows x k).map D.int))), some (.val d)]) rfl b, ih, Nat.add_right_comm]
    rfl
theorem ret_powers {x : Int} {d : Nat} (hx : x.natAbs ≤ 2 ^ 200) (hd : d ≤ 12) : Ret F_powers [.val (.int x), .val (.int (d : Nat))] (.own (.lst ((pows x d).map D.int))) := by
  obtain ⟨s3', e⟩ := pw_loop (x := x) (Y := .int (d : Nat)) hx d 0 none ((List.range' 0 d).map fun i => .int (0 + (i : Nat))) (by omega) (by simp)
  rw [Nat.zero_add] at e
  have s1 : sAsg (mLst (mCons (mVal (.int 1)) mNil)) (gNF 2) [some (.val (.int x)), some (.val (.int (d : Nat))), none, none] = .ok .nx [some (.val (.int x)), some (.val (.int (d : Nat))), some (.own (.lst ((pows x 0).map D.int))), none] := by
    have e0 : pows x 0 = [1] := by simp [pows]
    rw [e0]
    exact asg_val rfl rfl
  have it : mRng1 (mCons (mPlF 1) mNil) [some (.val (.int x)), some (.val (.int (d : Nat))), some (.own (.lst ((pows x 0).map D.int))), none] = .ok ((List.range' 0 d).map fun i => .int (0 + (i : Nat))) [some (.val (.int x)), some (.val (.int (d : Nat))), some (.own (.lst ((pows x 0).map D.int))), none] := rng1_ok (f := mCons (mPlF 1) mNil) rfl (by omega)
  exact ret_of (rt_of (seq_nx s1 (seq_nx (for_ok it e) (ret_ok (f := mPlF 2) rfl rfl))))
/-! ### triples -/
def trip (d : Nat) : List (Nat × Nat × Nat) := (List.range (d + 1)).reverse.flatMap fun i => (List.range (d - i + 1)).reverse.map fun j => (i, j, d - i - j)
def tripD (t : Nat × Nat × Nat) : D := .tup [.int t.1, .int t.2.1, .int t.2.2]
theorem trip_sum {d : Nat} {t : Nat × Nat × Nat} (h : t ∈ trip d) : t.1 + t.2.1 + t.2.2 = d := by
  unfold trip at h
  simp only [List.mem_flatMap, List.mem_map, List.mem_reverse, List.mem_range] at h
  obtain ⟨i, hi, j, hj, rfl⟩ := h
  show i + j + (d - i - j) = d
  omega
theorem mem_trip {d i j k : Nat} (h : i + j + k = d) : (i, j, k) ∈ trip d := by
  unfold trip
  simp only [List.mem_flatMap, List.mem_map, List.mem_reverse, List.mem_range]
  exact ⟨i, by omega, j, by omega, by congr 2; omega⟩
theorem ret_triples : ∀ {d : Nat}, d ≤ 12 → Ret F_triples_of [.val (.int (d : Nat))] (.own (.lst ((trip d).map tripD)))
  | 0, _ => by unfold Ret; kernel_rfl
  | 1, _ => by unfold Ret; kernel_rfl
  | 2, _ => by unfold Ret; kernel_rfl
  | 3, _ => by unfold Ret; kernel_rfl
  | 4, _ => by unfold Ret; kernel_rfl
  | 5, _ => by unfold Ret; kernel_rfl
  | 6, _ => by unfold Ret; kernel_rfl
  | 7, _ => by unfold Ret; kernel_rfl
  | 8, _ => by unfold Ret; kernel_rfl
  | 9, _ => by unfold Ret; kernel_rfl
  | 10, _ => by unfold Ret; kernel_rfl
  | 11, _ => by unfold Ret; kernel_rfl
  | 12, _ => by unfold Ret; kernel_rfl
  | n + 13, h => absurd h (by omega)
end
end VE

set_option exponentiation.threshold 10000
namespace VE
open PySem PySem.Spec PyProof.Rows L2 G0 RK
noncomputable section
def mono (p : P3) (t : Nat × Nat × Nat) : Int := p.x ^ t.1 * p.y ^ t.2.1 * p.z ^ t.2.2
theorem pows_at {x : Int} {d i : Nat} (h : i ≤ d) : opIx (il (pows x d)) (.int (i : Nat)) = some (.val (.int (x ^ i))) := by
  have hl : i < ((pows x d).map D.int).length := by simp [pows]; omega
  show (L2.atI ((pows x d).map D.int) (i : Int)).map RV.val = _
  rw [at_nat hl]
  simp [pows]
theorem mono_at {p : P3} {d : Nat} {t : Nat × Nat × Nat} (hp : p.le (2 ^ 200)) (hd : d ≤ 12) (h : t.1 ≤ d ∧ t.2.1 ≤ d ∧ t.2.2 ≤ d) : opMul (.int (p.x ^ t.1)) (.int (p.y ^ t.2.1)) = some (.val (.int (p.x ^ t.1 * p.y ^ t.2.1))) ∧ opMul (.int (p.x ^ t.1 * p.y ^ t.2.1)) (.int (p.z ^ t.2.2)) = some (.val (.int (mono p t))) := by
  have h1 := pow_le (d := 12) hp.1 (by decide) (by omega : t.1 ≤ 12)
  have h2 := pow_le (d := 12) hp.2.1 (by decide) (by omega : t.2.1 ≤ 12)
  have h3 := pow_le (d := 12) hp.2.2 (by decide) (by omega : t.2.2 ≤ 12)
  exact ⟨opMul_sm (sm_of h1 (by decide)) (sm_of h2 (by decide)), opMul_sm (sm_of (natAbs_mul_le h1 h2) (by decide)) (sm_of h3 (by decide))⟩
section
variable {p : P3} {t : Bool} {d : Nat}
theorem ret_worths {ts : List (Nat × Nat × Nat)} (hp : p.le (2 ^ 200)) (hd : d ≤ 12) (ht : ∀ s ∈ ts, s.1 ≤ d ∧ s.2.1 ≤ d ∧ s.2.2 ≤ d) : Ret F_worths_of [.val (.lst (ts.map tripD)), .val (.int (d : Nat)), .val (v3 t p)] (.own (.lst ((ts.map (mono p)).map D.int))) := by
  obtain ⟨ρ1, e1⟩ := (ret_powers (x := p.x) hp.1 hd).ex
  obtain ⟨ρ2, e2⟩ := (ret_powers (x := p.y) hp.2.1 hd).ex
  obtain ⟨ρ3, e3⟩ := (ret_powers (x := p.z) hp.2.2 hd).ex
  generalize hX : D.lst (ts.map tripD) = X
  have l1 : lcL (gNF 6) tt1 (mCall 2 [false, false] F_powers (mCons (mPlF 6) (mCons (mPlF 1) mNil))) [6] [.int p.x, .int p.y, .int p.z] [some (.val X), some (.val (.int (d : Nat))), some (.val (v3 t p)), none, none, none, none, none, none, none] = .ok [il (pows p.x d), il (pows p.y d), il (pows p.z d)] [some (.val X), some (.val (.int (d : Nat))), some (.val (v3 t p)), none, none, none, none, none, none, none] :=
    lc_cons (turn_ok (ρ1 := [some (.val X), some (.val (.int (d : Nat))), some (.val (v3 t p)), none, none, none, some (.val (.int p.x)), none, none, none]) rfl rfl (call_gen (ds := [.int p.x, .int (d : Nat)]) rfl rfl e1 rfl rfl) rfl)
    (lc_cons (turn_ok (ρ1 := [some (.val X), some (.val (.int (d : Nat))), some (.val (v3 t p)), none, none, none, some (.val (.int p.y)), none, none, none]) rfl rfl (call_gen (ds := [.int p.y, .int (d : Nat)]) rfl rfl e2 rfl rfl) rfl)
    (lc_cons (turn_ok (ρ1 := [some (.val X), some (.val (.int (d : Nat))), some (.val (v3 t p)), none, none, none, some (.val (.int p.z)), none, none, none]) rfl rfl (call_gen (ds := [.int p.z, .int (d : Nat)]) rfl rfl e3 rfl rfl) rfl) rfl))
  have s1 := asg_val (g := gT 3 (gCons (gNF 3) (gCons (gNF 4) (gCons (gNF 5) gNil)))) (mLC_ok (it := mIt (mPlF 2)) (vs := [6]) (ρ := [some (.val X), some (.val (.int (d : Nat))), some (.val (v3 t p)), none, none, none, none, none, none, none]) (it_ok (f := mPlF 2) rfl rfl) l1) rfl
  have l2 : lcL (gT 3 (gCons (gNF 7) (gCons (gNF 8) (gCons (gNF 9) gNil)))) tt1 (mOp opMul (mOp opMul (mOp opIx (mPlF 3) (mPlF 7)) (mOp opIx (mPlF 4) (mPlF 8))) (mOp opIx (mPlF 5) (mPlF 9))) [7, 8, 9] (ts.map tripD) [some (.val X), some (.val (.int (d : Nat))), some (.val (v3 t p)), some (.val (il (pows p.x d))), some (.val (il (pows p.y d))), some (.val (il (pows p.z d))), none, none, none, none] =
      .ok (ts.map fun s => .int (mono p s)) [some (.val X), some (.val (.int (d : Nat))), some (.val (v3 t p)), some (.val (il (pows p.x d))), some (.val (il (pows p.y d))), some (.val (il (pows p.z d))), none, none, none, none] :=
    lc_map _ fun s hs => by
      obtain ⟨m1, m2⟩ := mono_at hp hd (ht s hs)
      obtain ⟨h1, h2, h3⟩ := ht s hs
      exact ⟨_, turn_ok (ρ1 := [some (.val X), some (.val (.int (d : Nat))), some (.val (v3 t p)), some (.val (il (pows p.x d))), some (.val (il (pows p.y d))), some (.val (il (pows p.z d))), none, some (.val (.int s.1)), some (.val (.int s.2.1)), some (.val (.int s.2.2))]) rfl rfl
        (op_ok (op_ok (op_ok (f := mPlF 3) (g := mPlF 7) rfl rfl rfl rfl (pows_at h1)) (op_ok (f := mPlF 4) (g := mPlF 8) rfl rfl rfl rfl (pows_at h2)) rfl rfl m1) (op_ok (f := mPlF 5) (g := mPlF 9) rfl rfl rfl rfl (pows_at h3)) rfl rfl m2) rfl, rfl⟩
  have q2 : mLC (mIt (mPlF 0)) (gT 3 (gCons (gNF 7) (gCons (gNF 8) (gCons (gNF 9) gNil)))) tt1 (mOp opMul (mOp opMul (mOp opIx (mPlF 3) (mPlF 7)) (mOp opIx (mPlF 4) (mPlF 8))) (mOp opIx (mPlF 5) (mPlF 9))) [7, 8, 9] _ = _ := mLC_ok (it := mIt (mPlF 0)) (vs := [7, 8, 9]) (ρ := [some (.val X), some (.val (.int (d : Nat))), some (.val (v3 t p)), some (.val (il (pows p.x d))), some (.val (il (pows p.y d))), some (.val (il (pows p.z d))), none, none, none, none]) (it_ok (f := mPlF 0) (t := true) (xs := ts.map tripD) rfl (by rw [← hX]; rfl)) l2
  have e4 : (ts.map (mono p)).map D.int = ts.map fun s => .int (mono p s) := by rw [List.map_map]; rfl
  rw [e4]
  exact ret_of (rt_of (seq_nx s1 (ret_ok q2 rfl)))
end
theorem trip_le {d : Nat} {s : Nat × Nat × Nat} (h : s ∈ trip d) : s.1 ≤ d ∧ s.2.1 ≤ d ∧ s.2.2 ≤ d := by
  have := trip_sum h
  omega
def cond (d : Nat) (p : P3) : List Int := (trip d).map (mono p)
section
variable {ps : List P3} {d : Nat}
theorem ret_rows (hp : ∀ p ∈ ps, p.le (2 ^ 200)) (hd : d ≤ 12) : Ret F_condition_rows [.val (spD ps), .val (.int (d : Nat))] (.own (.lst (md (ps.map (cond d))))) := by
  obtain ⟨ρ1, e1⟩ := (ret_triples hd).ex
  have l1 : lcL (gNF 2) tt1 (mCall 3 [false, false, false] F_worths_of (mCons (mCall 1 [false] F_triples_of (mCons (mPlF 1) mNil)) (mCons (mPlF 1) (mCons (mPlF 2) mNil)))) [2] (ps.map (v3 false)) [some (.val (spD ps)), some (.val (.int (d : Nat))), none] = .ok (ps.map fun p => il (cond d p)) [some (.val (spD ps)), some (.val (.int (d : Nat))), none] :=
    lc_map _ fun p hp' => by
      obtain ⟨ρ2, e2⟩ := (ret_worths (t := false) (hp p hp') hd fun s hs => trip_le (d := d) hs).ex
      exact ⟨_, turn_ok (ρ1 := [some (.val (spD ps)), some (.val (.int (d : Nat))), some (.val (v3 false p))]) rfl rfl (call_gen (ds := [.lst ((trip d).map tripD), .int (d : Nat), v3 false p]) (cons_ok (call_gen (ds := [.int (d : Nat)]) rfl rfl e1 rfl rfl) rfl) rfl e2 rfl rfl) rfl, rfl⟩
  have it : mIt (mMeth "Spots" "points" 1 F_Spots_points (mPlF 0) mNil) [some (.val (spD ps)), some (.val (.int (d : Nat))), none] = .ok (ps.map (v3 false)) [some (.val (spD ps)), some (.val (.int (d : Nat))), none] := it_own (pts_ok (f := mPlF 0) (r := .val (spD ps)) rfl rfl rfl)
  have q := mLC_ok (vs := [2]) (ρ := [some (.val (spD ps)), some (.val (.int (d : Nat))), none]) it l1
  have e3 : md (ps.map (cond d)) = ps.map fun p => il (cond d p) := by unfold md; rw [List.map_map]; rfl
  rw [e3]
  exact ret_of (rt_of (ret_ok q rfl))
theorem ret_is_integer' {i : Int} : Ret F_is_integer [.val (.int i)] (.val (.bl true)) := ret_is_integer
theorem ret_is_count : Ret F_is_count [.val (.int (d : Nat))] (.val (.bl true)) := by
  obtain ⟨ρ1, e1⟩ := (ret_is_integer (i := (d : Nat))).ex
  have g : opGe (.int (d : Nat)) (.int 0) = some (.val (.bl true)) := by
    show some (RV.val (D.bl (decide ((0 : Int) ≤ (d : Nat))))) = _
    rw [decide_eq_true (by omega)]
  exact ret_of (rt_of (ret_ok (andV_t (call_gen (ds := [.int (d : Nat)]) rfl rfl e1 rfl rfl) (op_ok (f := mPlF 0) (g := mVal (.int 0)) rfl rfl rfl rfl g)) rfl))
theorem ret_check_degree {m : Nat} (h : d ≤ m) : Ret F_check_degree [.val (.int (d : Nat)), .val (.int (m : Nat))] (.val .non) := by
  obtain ⟨ρ1, e1⟩ := (ret_is_count (d := d)).ex
  have g : opGt (.int (d : Nat)) (.int (m : Nat)) = some (.val (.bl false)) := by
    show some (RV.val (D.bl (decide ((m : Int) < (d : Nat))))) = _
    rw [decide_eq_false (by omega)]
  have c1 : mNotT (mT (mCall 1 [false] F_is_count (mCons (mPlF 0) mNil))) [some (.val (.int (d : Nat))), some (.val (.int (m : Nat)))] = .ok false [some (.val (.int (d : Nat))), some (.val (.int (m : Nat)))] :=
    notT_ok (b := true) (T_ok (call_gen (ds := [.int (d : Nat)]) rfl rfl e1 rfl rfl))
  have c2 : mB (mOp opGt (mPlF 0) (mPlF 1)) [some (.val (.int (d : Nat))), some (.val (.int (m : Nat)))] = .ok false [some (.val (.int (d : Nat))), some (.val (.int (m : Nat)))] :=
    B_ok (op_ok (f := mPlF 0) (g := mPlF 1) rfl rfl rfl rfl g)
  have k : m_check_degree [some (.val (.int (d : Nat))), some (.val (.int (m : Nat)))] = .ok .nx [some (.val (.int (d : Nat))), some (.val (.int (m : Nat)))] := if_ok (orT_f c1 c2) rfl
  refine ret_of ?_
  show rtF (m_check_degree [some (.val (.int (d : Nat))), some (.val (.int (m : Nat)))]) = _
  rw [k]
  rfl
theorem ret_csd (h : d ≤ 9) : Ret F_check_spots_degree [.val (spD ps), .val (.int (d : Nat))] (.val .non) := by
  obtain ⟨ρ1, e1⟩ := (ret_check_spots (ps := ps)).ex
  obtain ⟨ρ2, e2⟩ := (ret_check_degree (d := d) (m := 9) h).ex
  have k : m_check_spots_degree [some (.val (spD ps)), some (.val (.int (d : Nat)))] = .ok .nx [some (.val (spD ps)), some (.val (.int (d : Nat)))] :=
    seq_nx (exp_ok (call_gen (ds := [spD ps]) rfl rfl e1 rfl rfl)) (exp_ok (call_gen (ds := [.int (d : Nat), .int 9]) rfl rfl e2 rfl rfl))
  refine ret_of ?_
  show rtF (m_check_spots_degree [some (.val (spD ps)), some (.val (.int (d : Nat)))]) = _
  rw [k]
  rfl
/-- how many conditions -/
def hN (ps : List P3) (d : Nat) : Nat := rk ((ps.map (cond d)).map vec)
theorem dB_mono_b {b c : Nat} (h : b ≤ c) : ∀ k, dB b k ≤ dB c k
  | 0 => Nat.le_refl _
  | k + 1 => Nat.mul_le_mul_left _ (Nat.mul_le_mul h (dB_mono_b h k))
theorem mono_le {p : P3} {s : Nat × Nat × Nat} {c : Nat} (hc : 1 ≤ c) (hp : p.le c) (hs : s ∈ trip d) : (mono p s).natAbs ≤ c ^ d := by
  have e := trip_sum hs
  have h1 := pow_le hp.1 hc (Nat.le_refl s.1)
  have h2 := pow_le hp.2.1 hc (Nat.le_refl s.2.1)
  have h3 := pow_le hp.2.2 hc (Nat.le_refl s.2.2)
  have h4 := natAbs_mul_le (natAbs_mul_le h1 h2) h3
  rw [← Nat.pow_add, ← Nat.pow_add, e] at h4
  exact h4
theorem cond_ok' {c : Nat} (hc : 1 ≤ c) (hc2 : c ≤ 2 ^ 38) (hd : d ≤ 9) (hz : ps.length ≤ 24) (hp : ∀ p ∈ ps, p.le c) : RkOk (ps.map (cond d)) (trip d).length (c ^ d) where
  wd := fun r hr => by
    obtain ⟨p, _, rfl⟩ := List.mem_map.mp hr
    exact List.length_map _
  bd := fun r hr x hx => by
    obtain ⟨p, hp', rfl⟩ := List.mem_map.mp hr
    obtain ⟨s, hs, rfl⟩ := List.mem_map.mp hx
    exact mono_le hc (hp p hp') hs
  b1 := Nat.pow_pos hc
  dB := by
    rw [List.length_map]
    have h1 : c ^ d ≤ (2 ^ 38) ^ 9 := Nat.le_trans (Nat.pow_le_pow_left hc2 d) (Nat.pow_le_pow_right (by decide) hd)
    have h2 := dB_mono_b h1 ps.length
    have h3 := dB_mono (b := (2 ^ 38) ^ 9) (by decide) hz
    have h4 : dB ((2 ^ 38) ^ 9) 24 < 2 ^ 9000 := by decide +kernel
    omega
theorem trip_len_le : d ≤ 12 → (trip d).length ≤ 91 := by
  intro h
  match d, h with
  | 0, _ => decide
  | 1, _ => decide
  | 2, _ => decide
  | 3, _ => decide
  | 4, _ => decide
  | 5, _ => decide +kernel
  | 6, _ => decide +kernel
  | 7, _ => decide +kernel
  | 8, _ => decide +kernel
  | 9, _ => decide +kernel
  | 10, _ => decide +kernel
  | 11, _ => decide +kernel
  | 12, _ => decide +kernel
  | n + 13, h => exact absurd h (by omega)
theorem ret_conditions (hp : ∀ p ∈ ps, p.le (2 ^ 38)) (hd : d ≤ 9) (h0 : 0 < ps.length) (hz : ps.length ≤ 24) : Ret F_conditions [.val (spD ps), .val (.int (d : Nat))] (.val (.int (hN ps d : Nat))) := by
  obtain ⟨ρ1, e1⟩ := (ret_csd (ps := ps) hd).ex
  obtain ⟨ρ2, e2⟩ := (ret_rows (ps := ps) (d := d) (fun p h => (hp p h).mono (by decide)) (by omega)).ex
  have ok := cond_ok' (c := 2 ^ 38) (by decide) (Nat.le_refl _) hd hz hp
  obtain ⟨ρ3, e3⟩ := (ret_rank ok (by simpa using h0) (by simp; omega) (Nat.le_trans (trip_len_le (by omega)) (by decide))).ex
  exact ret_of (rt_of (seq_nx (exp_ok (call_gen (ds := [spD ps, .int (d : Nat)]) rfl rfl e1 rfl rfl)) (ret_ok (call_gen (ds := [.lst (md (ps.map (cond d)))]) (cons_ok (g := mNil) (call_gen (ds := [spD ps, .int (d : Nat)]) rfl rfl e2 rfl rfl) rfl) rfl e3 rfl rfl) rfl)))
theorem ret_count_through (hp : ∀ p ∈ ps, p.le (2 ^ 38)) (hd : d ≤ 9) (h0 : 0 < ps.length) (hz : ps.length ≤ 24) : Ret F_count_through [.val (spD ps), .val (.int (d : Nat))] (.val (.int (((trip d).length : Nat) - (hN ps d : Nat) : Int))) := by
  obtain ⟨ρ1, e1⟩ := (ret_conditions hp hd h0 hz).ex
  obtain ⟨ρ2, e2⟩ := (ret_triples (d := d) (by omega)).ex
  have g4 : bLen [.lst ((trip d).map tripD)] = some (.val (.int ((trip d).length : Nat))) := by
    show some (RV.val (D.int (((trip d).map tripD).length : Nat))) = _
    rw [List.length_map]
  exact ret_of (rt_of (seq_nx (asg_val (call_gen (ds := [spD ps, .int (d : Nat)]) rfl rfl e1 rfl rfl) rfl) (ret_ok (op_ok (C_ok (c := bLen) (cons_ok (g := mNil) (call_gen (ds := [.int (d : Nat)]) rfl rfl e2 rfl rfl) rfl) rfl g4) (g := mPlF 2) rfl rfl rfl rfl) rfl)))
end
end
end VE

namespace VE
open PySem PySem.Spec PyProof.Rows L2 G0 RK
noncomputable section
/-- told points, unlike -/
structure Told (ps : List P3) (b : Nat) : Prop where
  nd : ps.Nodup
  pt : ∀ p ∈ ps, p.nz ∧ plainP p = p ∧ p.le b
end
end VE

/-! conditions: what is known of their rank -/
namespace RK
open VE
def comb : List Int → List Vec → Vec
  | c :: cs, v :: vs => fun i => c * v i + comb cs vs i
  | _, _ => fun _ => 0
def IndC (A : List Vec) : Prop := ∀ cs : List Int, cs.length = A.length → (∀ i, comb cs A i = 0) → ∀ c ∈ cs, c = 0
theorem sp_comb : ∀ {A : List Vec} {v : Vec}, Sp A v → ∃ (d : Int) (cs : List Int), d ≠ 0 ∧ cs.length = A.length ∧ ∀ i, d * v i = comb cs A i
  | [], v, h => ⟨1, [], by decide, rfl, fun i => by show 1 * v i = 0; rw [h i]; rfl⟩
  | a :: A, v, ⟨d, c, hd, h⟩ => by
    obtain ⟨e, cs, he, hl, h2⟩ := sp_comb h
    refine ⟨e * d, (e * c) :: cs, Int.mul_ne_zero he hd, by simp [hl], fun i => ?_⟩
    have := h2 i
    show e * d * v i = e * c * a i + comb cs A i
    grind
theorem comb_sp : ∀ {A : List Vec} {cs : List Int} {v : Vec}, (∀ i, v i = comb cs A i) → Sp A v
  | [], cs, v, h => fun i => by rw [h i]; cases cs <;> rfl
  | a :: A, [], v, h => Sp.zero _ fun i => h i
  | a :: A, c :: cs, v, h => ⟨1, c, by decide, comb_sp (cs := cs) fun i => by
    have := h i
    show 1 * v i - c * a i = _
    have h2 : comb (c :: cs) (a :: A) i = c * a i + comb cs A i := rfl
    rw [h2] at this
    omega⟩
theorem comb_neg : ∀ (cs : List Int) (A : List Vec) (i : Nat), comb (cs.map fun c => - c) A i = - comb cs A i
  | [], A, i => by cases A <;> rfl
  | c :: cs, [], i => rfl
  | c :: cs, a :: A, i => by
    have := comb_neg cs A i
    show - c * a i + comb (cs.map fun c => - c) A i = - (c * a i + comb cs A i)
    grind
theorem ind_indC : ∀ {A : List Vec}, Ind A → IndC A
  | [], _, cs, hl, _, c, hc => by
    rw [List.length_eq_zero_iff.mp hl] at hc
    cases hc
  | a :: A, ⟨n, h⟩, cs, hl, h0, c, hc => by
    cases cs with
    | nil => cases hl
    | cons e cs =>
    have e0 : e = 0 := by
      refine Classical.byContradiction fun z => n ?_
      refine Sp.unsmul z (comb_sp (cs := cs.map fun c => - c) fun i => ?_)
      have := h0 i
      rw [comb_neg]
      have h2 : comb (e :: cs) (a :: A) i = e * a i + comb cs A i := rfl
      rw [h2] at this
      omega
    have h1 := ind_indC h cs (by simpa using hl) fun i => by
      have := h0 i
      have h2 : comb (e :: cs) (a :: A) i = e * a i + comb cs A i := rfl
      rw [h2, e0] at this
      omega
    rcases List.mem_cons.mp hc with rfl | hc
    · exact e0
    · exact h1 c hc
theorem indC_ind : ∀ {A : List Vec}, IndC A → Ind A
  | [], _ => trivial
  | a :: A, h => by
    refine ⟨fun s => ?_, indC_ind fun cs hl h0 c hc => h (0 :: cs) (by simp [hl]) (fun i => ?_) c (List.mem_cons_of_mem _ hc)⟩
    · obtain ⟨d, cs, hd, hl, e⟩ := sp_comb s
      refine hd (h (d :: cs.map fun c => - c) (by simp [hl]) (fun i => ?_) d (List.mem_cons_self ..))
      show d * a i + comb (cs.map fun c => - c) A i = 0
      rw [comb_neg, e i]
      omega
    · show 0 * a i + comb cs A i = 0
      rw [h0 i]
      omega
open Classical in
noncomputable def basL {α : Type} (u : α → Vec) : List α → List α
  | [] => []
  | a :: A => if Sp (A.map u) (u a) then basL u A else a :: basL u A
theorem basL_map {α : Type} (u : α → Vec) : ∀ l : List α, (basL u l).map u = bas (l.map u)
  | [] => rfl
  | a :: l => by
    unfold basL
    rw [List.map_cons]
    unfold bas
    split
    · exact basL_map u l
    · rw [List.map_cons, basL_map u l]
theorem basL_mem {α : Type} (u : α → Vec) : ∀ {l : List α} {a : α}, a ∈ basL u l → a ∈ l
  | b :: l, a, h => by
    unfold basL at h
    split at h
    · exact List.mem_cons_of_mem _ (basL_mem u h)
    · rcases List.mem_cons.mp h with rfl | h
      · exact List.mem_cons_self ..
      · exact List.mem_cons_of_mem _ (basL_mem u h)
theorem basL_ind {α : Type} (u : α → Vec) (l : List α) : Ind ((basL u l).map u) := by rw [basL_map]; exact bas_ind _
theorem basL_len {α : Type} (u : α → Vec) (l : List α) : (basL u l).length = rk (l.map u) := by
  have := congrArg List.length (basL_map u l)
  rw [List.length_map, bas_len] at this
  exact this
/-! ### conditions -/
def cv (d : Nat) (p : P3) : Vec := vec (cond d p)
theorem hN_cv (ps : List P3) (d : Nat) : hN ps d = rk (ps.map (cv d)) := by
  unfold hN
  rw [List.map_map]
  rfl
def cm : List Int → List P3 → Nat × Nat × Nat → Int
  | c :: cs, p :: ps, t => c * mono p t + cm cs ps t
  | _, _, _ => 0
theorem comb_cv (d i : Nat) : ∀ (cs : List Int) (ps : List P3), comb cs (ps.map (cv d)) i = match (trip d)[i]? with
    | some t => cm cs ps t
    | none => 0
  | [], ps => by cases ps <;> (cases (trip d)[i]? <;> rfl)
  | c :: cs, [] => by cases (trip d)[i]? <;> rfl
  | c :: cs, p :: ps => by
    have ih := comb_cv d i cs ps
    show c * cv d p i + comb cs (ps.map (cv d)) i = _
    rw [ih]
    have e : cv d p i = match (trip d)[i]? with
      | some t => mono p t
      | none => 0 := by
      unfold cv VE.cond vec
      rw [List.getD_eq_getElem?_getD, List.getElem?_map]
      cases (trip d)[i]? <;> rfl
    rw [e]
    cases (trip d)[i]? with
    | none => show c * 0 + 0 = 0; omega
    | some t => rfl
theorem dep_iff {d : Nat} {cs : List Int} {ps : List P3} : (∀ i, comb cs (ps.map (cv d)) i = 0) ↔ ∀ t ∈ trip d, cm cs ps t = 0 := by
  constructor
  · intro h t ht
    obtain ⟨i, hi, rfl⟩ := List.getElem_of_mem ht
    have := h i
    rw [comb_cv, List.getElem?_eq_getElem hi] at this
    exact this
  · intro h i
    rw [comb_cv]
    cases e : (trip d)[i]? with
    | none => rfl
    | some t => exact h t (List.mem_of_getElem? e)
/-- the numbers, each times what a letter, or a line, is at the point -/
def tim (f : P3 → Int) : List Int → List P3 → List Int
  | c :: cs, p :: ps => (c * f p) :: tim f cs ps
  | _, _ => []
theorem tim_len (f : P3 → Int) : ∀ (cs : List Int) (ps : List P3), cs.length = ps.length → (tim f cs ps).length = ps.length
  | [], [], _ => rfl
  | c :: cs, p :: ps, h => by
    have := tim_len f cs ps (by simpa using h)
    show (tim f cs ps).length + 1 = ps.length + 1
    rw [this]
  | [], _ :: _, h => by cases h
  | _ :: _, [], h => by cases h
theorem cm_x : ∀ (cs : List Int) (ps : List P3) (i j k : Nat), cm (tim P3.x cs ps) ps (i, j, k) = cm cs ps (i + 1, j, k)
  | [], ps, i, j, k => by cases ps <;> rfl
  | c :: cs, [], i, j, k => rfl
  | c :: cs, p :: ps, i, j, k => by
    have := cm_x cs ps i j k
    show c * p.x * mono p (i, j, k) + cm (tim P3.x cs ps) ps (i, j, k) = c * mono p (i + 1, j, k) + cm cs ps (i + 1, j, k)
    rw [this]
    unfold mono
    rw [Int.pow_succ]
    grind
theorem cm_y : ∀ (cs : List Int) (ps : List P3) (i j k : Nat), cm (tim P3.y cs ps) ps (i, j, k) = cm cs ps (i, j + 1, k)
  | [], ps, i, j, k => by cases ps <;> rfl
  | c :: cs, [], i, j, k => rfl
  | c :: cs, p :: ps, i, j, k => by
    have := cm_y cs ps i j k
    show c * p.y * mono p (i, j, k) + cm (tim P3.y cs ps) ps (i, j, k) = c * mono p (i, j + 1, k) + cm cs ps (i, j + 1, k)
    rw [this]
    unfold mono
    rw [Int.pow_succ]
    grind
theorem cm_z : ∀ (cs : List Int) (ps : List P3) (i j k : Nat), cm (tim P3.z cs ps) ps (i, j, k) = cm cs ps (i, j, k + 1)
  | [], ps, i, j, k => by cases ps <;> rfl
  | c :: cs, [], i, j, k => rfl
  | c :: cs, p :: ps, i, j, k => by
    have := cm_z cs ps i j k
    show c * p.z * mono p (i, j, k) + cm (tim P3.z cs ps) ps (i, j, k) = c * mono p (i, j, k + 1) + cm cs ps (i, j, k + 1)
    rw [this]
    unfold mono
    rw [Int.pow_succ]
    grind
def lin (l : P3) (p : P3) : Int := l.x * p.x + l.y * p.y + l.z * p.z
theorem cm_lin (l : P3) : ∀ (cs : List Int) (ps : List P3) (t : Nat × Nat × Nat), cm (tim (lin l) cs ps) ps t = l.x * cm (tim P3.x cs ps) ps t + l.y * cm (tim P3.y cs ps) ps t + l.z * cm (tim P3.z cs ps) ps t
  | [], ps, t => by cases ps <;> (show (0 : Int) = l.x * 0 + l.y * 0 + l.z * 0; omega)
  | c :: cs, [], t => by show (0 : Int) = l.x * 0 + l.y * 0 + l.z * 0; omega
  | c :: cs, p :: ps, t => by
    have := cm_lin l cs ps t
    show c * lin l p * mono p t + cm (tim (lin l) cs ps) ps t = l.x * (c * p.x * mono p t + cm (tim P3.x cs ps) ps t) + l.y * (c * p.y * mono p t + cm (tim P3.y cs ps) ps t) + l.z * (c * p.z * mono p t + cm (tim P3.z cs ps) ps t)
    rw [this]
    unfold lin
    grind
def Dep (d : Nat) (cs : List Int) (ps : List P3) : Prop := ∀ t ∈ trip d, cm cs ps t = 0
theorem Dep.x {d : Nat} {cs : List Int} {ps : List P3} (h : Dep (d + 1) cs ps) : Dep d (tim P3.x cs ps) ps := fun t ht => by
  obtain ⟨i, j, k⟩ := t
  have := trip_sum ht
  rw [cm_x]
  exact h _ (mem_trip (by dsimp only at this; omega))
theorem Dep.y {d : Nat} {cs : List Int} {ps : List P3} (h : Dep (d + 1) cs ps) : Dep d (tim P3.y cs ps) ps := fun t ht => by
  obtain ⟨i, j, k⟩ := t
  have := trip_sum ht
  rw [cm_y]
  exact h _ (mem_trip (by dsimp only at this; omega))
theorem Dep.z {d : Nat} {cs : List Int} {ps : List P3} (h : Dep (d + 1) cs ps) : Dep d (tim P3.z cs ps) ps := fun t ht => by
  obtain ⟨i, j, k⟩ := t
  have := trip_sum ht
  rw [cm_z]
  exact h _ (mem_trip (by dsimp only at this; omega))
theorem Dep.lin {d : Nat} {cs : List Int} {ps : List P3} (h : Dep (d + 1) cs ps) (l : P3) : Dep d (tim (lin l) cs ps) ps := fun t ht => by
  rw [cm_lin, h.x t ht, h.y t ht, h.z t ht]
  omega
def IndP (d : Nat) (ps : List P3) : Prop := ∀ cs : List Int, cs.length = ps.length → Dep d cs ps → ∀ c ∈ cs, c = 0
theorem indP_iff {d : Nat} {ps : List P3} : IndP d ps ↔ Ind (ps.map (cv d)) :=
  ⟨fun h => indC_ind fun cs hl h0 => h cs (by simpa using hl) (dep_iff.mp h0), fun h cs hl h0 => ind_indC h cs (by simpa using hl) (dep_iff.mpr h0)⟩
theorem indP_rk {d : Nat} {ps : List P3} (h : IndP d ps) : hN ps d = ps.length := by
  rw [hN_cv, rk_ind (indP_iff.mp h), List.length_map]
theorem tim_zero {f : P3 → Int} : ∀ {cs : List Int} {ps : List P3}, cs.length = ps.length → (∀ c ∈ tim f cs ps, c = 0) → ∀ (i : Nat) (c : Int) (p : P3), cs[i]? = some c → ps[i]? = some p → c * f p = 0
  | c :: cs, p :: ps, hl, h, 0, c', p', h1, h2 => by
    cases h1
    cases h2
    exact h _ (List.mem_cons_self ..)
  | c :: cs, p :: ps, hl, h, i + 1, c', p', h1, h2 => tim_zero (by simpa using hl) (fun x hx => h x (List.mem_cons_of_mem _ hx)) i c' p' h1 h2
theorem get_of {cs : List Int} {ps : List P3} (hl : cs.length = ps.length) {c : Int} (hc : c ∈ cs) : ∃ (i : Nat) (p : P3), cs[i]? = some c ∧ ps[i]? = some p ∧ p ∈ ps := by
  obtain ⟨i, hi, rfl⟩ := List.getElem_of_mem hc
  exact ⟨i, ps[i]'(by omega), List.getElem?_eq_getElem hi, List.getElem?_eq_getElem (by omega), List.getElem_mem _⟩
theorem indP_succ {d : Nat} {ps : List P3} (nz : ∀ p ∈ ps, p.nz) (h : IndP d ps) : IndP (d + 1) ps := fun cs hl h0 c hc => by
  obtain ⟨i, p, h1, h2, hp⟩ := get_of hl hc
  have zx := tim_zero hl (h _ (tim_len _ cs ps hl) h0.x) i c p h1 h2
  have zy := tim_zero hl (h _ (tim_len _ cs ps hl) h0.y) i c p h1 h2
  have zz := tim_zero hl (h _ (tim_len _ cs ps hl) h0.z) i c p h1 h2
  refine Classical.byContradiction fun c0 => ?_
  obtain ⟨n, hn, n0⟩ := nz p hp
  have ex := (Int.mul_eq_zero.mp zx).resolve_left c0
  have ey := (Int.mul_eq_zero.mp zy).resolve_left c0
  have ez := (Int.mul_eq_zero.mp zz).resolve_left c0
  simp only [P3.list, List.mem_cons, List.not_mem_nil, or_false] at hn
  rcases hn with rfl | rfl | rfl
  · exact n0 ex
  · exact n0 ey
  · exact n0 ez
theorem hN_mem {ps qs : List P3} (h : ∀ p, p ∈ ps ↔ p ∈ qs) (d : Nat) : hN ps d = hN qs d := by
  rw [hN_cv, hN_cv]
  refine rk_mem fun a => ?_
  simp only [List.mem_map]
  exact ⟨fun ⟨p, hp, e⟩ => ⟨p, (h p).mp hp, e⟩, fun ⟨p, hp, e⟩ => ⟨p, (h p).mpr hp, e⟩⟩
theorem hN_sub {ps qs : List P3} (h : ∀ p ∈ ps, p ∈ qs) (d : Nat) : hN ps d ≤ hN qs d := by
  rw [hN_cv, hN_cv]
  refine rk_le fun a ha => Sp.mem ?_
  obtain ⟨p, hp, rfl⟩ := List.mem_map.mp ha
  exact List.mem_map.mpr ⟨p, h p hp, rfl⟩
theorem hN_len (ps : List P3) (d : Nat) : hN ps d ≤ ps.length := by
  have := rk_len (ps.map (cv d))
  rw [List.length_map] at this
  rw [hN_cv]
  exact this
theorem hN_succ {ps : List P3} (nz : ∀ p ∈ ps, p.nz) (d : Nat) : hN ps d ≤ hN ps (d + 1) := by
  have h1 : IndP d (basL (cv d) ps) := indP_iff.mpr (basL_ind _ _)
  have h2 := indP_rk (indP_succ (fun p hp => nz p (basL_mem _ hp)) h1)
  have h3 := hN_sub (ps := basL (cv d) ps) (qs := ps) (fun p hp => basL_mem _ hp) (d + 1)
  rw [h2, basL_len, ← hN_cv] at h3
  exact h3
open Classical in
theorem hN_zero {ps : List P3} (h : ps ≠ []) : hN ps 0 = 1 := by
  rw [hN_cv]
  have e : ∀ p : P3, cv 0 p = fun i => if i = 0 then 1 else 0 := fun p => funext fun i => by
    unfold cv
    have : VE.cond 0 p = [1] := by
      unfold VE.cond
      show [mono p (0, 0, 0)] = [1]
      simp [mono]
    rw [this]
    cases i with
    | zero => rfl
    | succ i => rfl
  obtain ⟨p, qs, rfl⟩ : ∃ p qs, ps = p :: qs := by
    cases ps with
    | nil => exact absurd rfl h
    | cons p qs => exact ⟨p, qs, rfl⟩
  have h1 : rk ((p :: qs).map (cv 0)) = rk [cv 0 p] := rk_mem fun a => by
    simp only [List.mem_map, List.mem_cons, List.not_mem_nil, or_false]
    constructor
    · rintro ⟨q, _, rfl⟩
      rw [e, e]
    · rintro rfl
      exact ⟨p, .inl rfl, rfl⟩
  rw [h1]
  show 0 + (if Sp [] (cv 0 p) then 0 else 1) = 1
  rw [if_neg fun s => by
    have := s 0
    rw [e] at this
    exact absurd this (by decide)]
/-! ### unlike points -/
theorem pr_of_cross {p q : P3} (hp : p.nz) (hq : q.nz) (h1 : p.x * q.y = p.y * q.x) (h2 : p.x * q.z = p.z * q.x) (h3 : p.y * q.z = p.z * q.y) : Pr p q := by
  have qn : ∀ {a b c : Int}, q.x = a → q.y = b → q.z = c → ¬ (a = 0 ∧ b = 0 ∧ c = 0) := by
    rintro a b c rfl rfl rfl ⟨z1, z2, z3⟩
    obtain ⟨n, hn, n0⟩ := hq
    simp only [P3.list, List.mem_cons, List.not_mem_nil, or_false] at hn
    rcases hn with rfl | rfl | rfl
    · exact n0 z1
    · exact n0 z2
    · exact n0 z3
  obtain ⟨n, hn, n0⟩ := hp
  simp only [P3.list, List.mem_cons, List.not_mem_nil, or_false] at hn
  rcases hn with rfl | rfl | rfl
  · have qx : q.x ≠ 0 := fun z => by
      rw [z, Int.mul_zero] at h1 h2
      exact qn rfl rfl rfl ⟨z, (Int.mul_eq_zero.mp h1).resolve_left n0, (Int.mul_eq_zero.mp h2).resolve_left n0⟩
    exact ⟨q.x, p.x, qx, n0, P3.ext (Int.mul_comm ..) (by show q.x * p.y = p.x * q.y; rw [h1, Int.mul_comm]) (by show q.x * p.z = p.x * q.z; rw [h2, Int.mul_comm])⟩
  · have qy : q.y ≠ 0 := fun z => by
      rw [z, Int.mul_zero] at h1 h3
      exact qn rfl rfl rfl ⟨(Int.mul_eq_zero.mp h1.symm).resolve_left n0, z, (Int.mul_eq_zero.mp h3).resolve_left n0⟩
    exact ⟨q.y, p.y, qy, n0, P3.ext (by show q.y * p.x = p.y * q.x; rw [← h1, Int.mul_comm]) (Int.mul_comm ..) (by show q.y * p.z = p.y * q.z; rw [h3, Int.mul_comm])⟩
  · have qz : q.z ≠ 0 := fun z => by
      rw [z, Int.mul_zero] at h2 h3
      exact qn rfl rfl rfl ⟨(Int.mul_eq_zero.mp h2.symm).resolve_left n0, (Int.mul_eq_zero.mp h3.symm).resolve_left n0, z⟩
    exact ⟨q.z, p.z, qz, n0, P3.ext (by show q.z * p.x = p.z * q.x; rw [← h2, Int.mul_comm]) (by show q.z * p.y = p.z * q.y; rw [← h3, Int.mul_comm]) (Int.mul_comm ..)⟩
theorem mono_nz {p : P3} (hp : p.nz) (d : Nat) : ∃ t ∈ trip d, mono p t ≠ 0 := by
  obtain ⟨n, hn, n0⟩ := hp
  simp only [P3.list, List.mem_cons, List.not_mem_nil, or_false] at hn
  rcases hn with rfl | rfl | rfl
  · exact ⟨(d, 0, 0), mem_trip (by omega), by simpa [mono] using Int.pow_ne_zero n0⟩
  · exact ⟨(0, d, 0), mem_trip (by omega), by simpa [mono] using Int.pow_ne_zero n0⟩
  · exact ⟨(0, 0, d), mem_trip (by omega), by simpa [mono] using Int.pow_ne_zero n0⟩
theorem cm_zero : ∀ {cs : List Int} {ps : List P3} (t : Nat × Nat × Nat), (∀ c ∈ cs, c = 0) → cm cs ps t = 0
  | [], ps, t, _ => by cases ps <;> rfl
  | c :: cs, [], t, _ => rfl
  | c :: cs, p :: ps, t, h => by
    show c * mono p t + cm cs ps t = 0
    rw [h c (List.mem_cons_self ..), cm_zero t fun x hx => h x (List.mem_cons_of_mem _ hx)]
    omega
/-- points that are pairwise unlike make independent conditions from one degree less than they are on -/
theorem indP_unlike : ∀ {ps : List P3} {d : Nat}, (∀ p ∈ ps, p.nz) → ps.Pairwise (fun p q => ¬ Pr p q) → ps.length ≤ d + 1 → IndP d ps
  | [], d, _, _, _, cs, hl, _, c, hc => by
    rw [List.length_eq_zero_iff.mp hl] at hc
    cases hc
  | p :: ps, d, nz, pw, hz, cs, hl, h0, c, hc => by
    cases cs with
    | nil => cases hl
    | cons e cs =>
    have hl' : cs.length = ps.length := by simpa using hl
    obtain ⟨pw1, pw2⟩ := List.pairwise_cons.mp pw
    have z : ∀ x ∈ cs, x = 0 := by
      intro x hx
      obtain ⟨i, q, h1, h2, hq⟩ := get_of hl' hx
      cases d with
      | zero =>
        have := List.length_pos_of_mem hq
        simp at hz
        rw [hz] at hq
        cases hq
      | succ d =>
      have ih := indP_unlike (d := d) (fun q hq => nz q (List.mem_cons_of_mem _ hq)) pw2 (by simpa using hz)
      have key : ∀ l : P3, lin l p = 0 → x * lin l q = 0 := fun l hlp => by
        have dl := h0.lin l
        have d2 : Dep d (tim (lin l) cs ps) ps := fun t ht => by
          have := dl t ht
          have e2 : cm (tim (lin l) (e :: cs) (p :: ps)) (p :: ps) t = e * lin l p * mono p t + cm (tim (lin l) cs ps) ps t := rfl
          rw [e2, hlp] at this
          have e3 : e * 0 * mono p t = 0 := by grind
          omega
        exact tim_zero hl' (ih _ (tim_len _ cs ps hl') d2) i x q h1 h2
      refine Classical.byContradiction fun x0 => pw1 q hq ?_
      have k1 := (Int.mul_eq_zero.mp (key ⟨p.y, - p.x, 0⟩ (by unfold lin; dsimp only; grind))).resolve_left x0
      have k2 := (Int.mul_eq_zero.mp (key ⟨p.z, 0, - p.x⟩ (by unfold lin; dsimp only; grind))).resolve_left x0
      have k3 := (Int.mul_eq_zero.mp (key ⟨0, p.z, - p.y⟩ (by unfold lin; dsimp only; grind))).resolve_left x0
      unfold lin at k1 k2 k3
      dsimp only at k1 k2 k3
      exact pr_of_cross (nz p (List.mem_cons_self ..)) (nz q (List.mem_cons_of_mem _ hq)) (by grind) (by grind) (by grind)
    have e0 : e = 0 := by
      obtain ⟨t, ht, mt⟩ := mono_nz (nz p (List.mem_cons_self ..)) d
      have := h0 t ht
      have e2 : cm (e :: cs) (p :: ps) t = e * mono p t + cm cs ps t := rfl
      rw [e2, cm_zero t z, Int.add_zero] at this
      exact (Int.mul_eq_zero.mp this).resolve_right mt
    rcases List.mem_cons.mp hc with rfl | hc
    · exact e0
    · exact z c hc
theorem told_unlike {ps : List P3} {b : Nat} (h : Told ps b) : ps.Pairwise (fun p q => ¬ Pr p q) := by
  have nd : ps.Pairwise (fun p q => p ≠ q) := h.nd
  refine nd.imp_of_mem fun {p q} hp hq ne pr => ne ?_
  have := pr.eq (h.pt p hp).1 (h.pt q hq).1
  rw [(h.pt p hp).2.1, (h.pt q hq).2.1] at this
  exact this
theorem hN_all {ps : List P3} {b d : Nat} (h : Told ps b) (hz : ps.length ≤ d + 1) : hN ps d = ps.length := indP_rk (indP_unlike (fun p hp => (h.pt p hp).1) (told_unlike h) hz)
end RK

/-! conditions of points led by a table -/
namespace RK
open VE
theorem cm_tim (f : P3 → Int) (g : P3 → P3) (t t' : Nat × Nat × Nat) (h : ∀ p, f p * mono (g p) t' = mono (g p) t) : ∀ (cs : List Int) (ps : List P3), cm (tim f cs ps) (ps.map g) t' = cm cs (ps.map g) t
  | [], ps => by cases ps <;> rfl
  | c :: cs, [] => rfl
  | c :: cs, p :: ps => by
    have ih := cm_tim f g t t' h cs ps
    show c * f p * mono (g p) t' + cm (tim f cs ps) (ps.map g) t' = c * mono (g p) t + cm cs (ps.map g) t
    rw [ih, ← h p]
    grind
theorem lin_dot (l p : P3) : lin l p = dot3 l p := by
  unfold lin dot3
  omega
theorem dep_app (T : M3) : ∀ (d : Nat) (cs : List Int) (ps : List P3) (i j k : Nat), i + j + k = d → Dep d cs ps → cm cs (ps.map (app3 T)) (i, j, k) = 0
  | 0, cs, ps, i, j, k, h, hd => by
    obtain rfl : i = 0 := by omega
    obtain rfl : j = 0 := by omega
    obtain rfl : k = 0 := by omega
    have h0 := hd (0, 0, 0) (mem_trip rfl)
    have e : ∀ (cs : List Int) (ps : List P3), cm cs (ps.map (app3 T)) (0, 0, 0) = cm cs ps (0, 0, 0) := by
      intro cs
      induction cs with
      | nil => intro ps; cases ps <;> rfl
      | cons c cs ih =>
        intro ps
        cases ps with
        | nil => rfl
        | cons p ps =>
          show c * mono (app3 T p) (0, 0, 0) + cm cs (ps.map (app3 T)) (0, 0, 0) = c * mono p (0, 0, 0) + cm cs ps (0, 0, 0)
          rw [ih ps]
          simp [mono]
    rw [e]
    exact h0
  | d + 1, cs, ps, i, j, k, h, hd => by
    cases i with
    | succ i =>
      have ih := dep_app T d (tim (lin T.a) cs ps) ps i j k (by omega) (hd.lin T.a)
      rw [cm_tim (lin T.a) (app3 T) (i + 1, j, k) (i, j, k) fun p => by
        rw [lin_dot]
        unfold mono
        show dot3 T.a p * (dot3 T.a p ^ i * _ * _) = dot3 T.a p ^ (i + 1) * _ * _
        rw [Int.pow_succ]
        grind] at ih
      exact ih
    | zero =>
    cases j with
    | succ j =>
      have ih := dep_app T d (tim (lin T.b) cs ps) ps 0 j k (by omega) (hd.lin T.b)
      rw [cm_tim (lin T.b) (app3 T) (0, j + 1, k) (0, j, k) fun p => by
        rw [lin_dot]
        unfold mono
        show dot3 T.b p * (_ * dot3 T.b p ^ j * _) = _ * dot3 T.b p ^ (j + 1) * _
        rw [Int.pow_succ]
        grind] at ih
      exact ih
    | zero =>
    cases k with
    | zero => omega
    | succ k =>
      have ih := dep_app T d (tim (lin T.c) cs ps) ps 0 0 k (by omega) (hd.lin T.c)
      rw [cm_tim (lin T.c) (app3 T) (0, 0, k + 1) (0, 0, k) fun p => by
        rw [lin_dot]
        unfold mono
        show dot3 T.c p * (_ * _ * dot3 T.c p ^ k) = _ * _ * dot3 T.c p ^ (k + 1)
        rw [Int.pow_succ]
        grind] at ih
      exact ih
theorem hN_app_le (T : M3) (ps : List P3) (d : Nat) : hN (ps.map (app3 T)) d ≤ hN ps d := by
  have e1 : hN (ps.map (app3 T)) d = (basL (fun p => cv d (app3 T p)) ps).length := by
    rw [hN_cv, List.map_map, basL_len]
    rfl
  have i1 : IndP d ((basL (fun p => cv d (app3 T p)) ps).map (app3 T)) := indP_iff.mpr (by
    rw [List.map_map]
    exact basL_ind (fun p => cv d (app3 T p)) ps)
  have i2 : IndP d (basL (fun p => cv d (app3 T p)) ps) := fun cs hl h0 => i1 cs (by rw [List.length_map]; exact hl) fun t ht => by
    obtain ⟨i, j, k⟩ := t
    have := trip_sum ht
    exact dep_app T d cs _ i j k this h0
  have := hN_sub (ps := basL (fun p => cv d (app3 T p)) ps) (qs := ps) (fun p hp => basL_mem _ hp) d
  rw [indP_rk i2] at this
  rw [e1]
  exact this
theorem mono_smul (s : Int) (p : P3) (i j k : Nat) : mono (p.smul s) (i, j, k) = s ^ (i + j + k) * mono p (i, j, k) := by
  unfold mono P3.smul
  dsimp only
  rw [Int.mul_pow, Int.mul_pow, Int.mul_pow, Int.pow_add, Int.pow_add]
  grind
theorem cv_smul (s : Int) (p : P3) (d i : Nat) : cv d (p.smul s) i = s ^ d * cv d p i := by
  have e : ∀ q : P3, cv d q i = match (trip d)[i]? with
    | some t => mono q t
    | none => 0 := fun q => by
    unfold cv VE.cond vec
    rw [List.getD_eq_getElem?_getD, List.getElem?_map]
    cases (trip d)[i]? <;> rfl
  rw [e, e]
  cases h : (trip d)[i]? with
  | none => show (0 : Int) = s ^ d * 0; omega
  | some t =>
    obtain ⟨x, y, z⟩ := t
    have := trip_sum (List.mem_of_getElem? h)
    dsimp only at this ⊢
    rw [mono_smul, this]
theorem hN_scale {f g : P3 → P3} {ps : List P3} {d : Nat} (h : ∀ p ∈ ps, ∃ s : Int, s ≠ 0 ∧ f p = (g p).smul s) : hN (ps.map f) d = hN (ps.map g) d := by
  rw [hN_cv, hN_cv]
  refine rk_eq (fun a ha => ?_) fun a ha => ?_
  · obtain ⟨q, hq, rfl⟩ := List.mem_map.mp ha
    obtain ⟨p, hp, rfl⟩ := List.mem_map.mp hq
    obtain ⟨s, hs, e⟩ := h p hp
    have m : Sp ((ps.map g).map (cv d)) (cv d (g p)) := Sp.mem (List.mem_map.mpr ⟨g p, List.mem_map.mpr ⟨p, hp, rfl⟩, rfl⟩)
    exact (m.smul (s ^ d)).congr fun i => by rw [e, cv_smul]
  · obtain ⟨q, hq, rfl⟩ := List.mem_map.mp ha
    obtain ⟨p, hp, rfl⟩ := List.mem_map.mp hq
    obtain ⟨s, hs, e⟩ := h p hp
    have m : Sp ((ps.map f).map (cv d)) (cv d (f p)) := Sp.mem (List.mem_map.mpr ⟨f p, List.mem_map.mpr ⟨p, hp, rfl⟩, rfl⟩)
    exact Sp.unsmul (Int.pow_ne_zero hs) (m.congr fun i => by rw [e, cv_smul])
theorem hN_app {T : M3} (hT : det3 T ≠ 0) (ps : List P3) (d : Nat) : hN (ps.map (app3 T)) d = hN ps d := by
  refine Nat.le_antisymm (hN_app_le T ps d) ?_
  have h1 := hN_app_le (adj3 T) (ps.map (app3 T)) d
  rw [List.map_map] at h1
  have h2 : hN (ps.map (app3 (adj3 T) ∘ app3 T)) d = hN (ps.map id) d := hN_scale fun p _ => ⟨det3 T, hT, app_adj T p⟩
  rw [h2, List.map_id] at h1
  exact h1
/-- told again, led by a table: the same -/
theorem hN_led {T : M3} (hT : det3 T ≠ 0) {ps : List P3} (nz : ∀ p ∈ ps, p.nz) (d : Nat) : hN (ps.map fun p => plainP (app3 T p)) d = hN ps d := by
  rw [← hN_app hT ps d]
  refine (hN_scale fun p hp => ?_).symm
  exact ⟨signed (app3 T p).list, signed_ne (app_nz hT (nz p hp)), (plainP_back (app_nz hT (nz p hp))).symm⟩
end RK

set_option exponentiation.threshold 10000
namespace VE
open PySem PySem.Spec PyProof.Rows L2 G0 RK
noncomputable section
theorem lc_pot {α : Type} {g : RV → M Unit} {t : M Bool} {e : M RV} {vs : List Nat} {enc : α → D} {Q : α → Prop} {mk : Int → Int → Rho} : ∀ (ds : List D), (∀ d ∈ ds, ∀ a b, PotOk a b → ∃ (y : α) (a' b' : Int) (ρ' : Rho), PotOk a' b' ∧ Q y ∧ turn g t e d (mk a b) = .ok (some (enc y)) ρ' ∧ wipeE ρ' vs = mk a' b') → ∀ a b, PotOk a b →
    ∃ (ys : List α) (a' b' : Int), PotOk a' b' ∧ (∀ y ∈ ys, Q y) ∧ ys.length = ds.length ∧ lcL g t e vs ds (mk a b) = .ok (ys.map enc) (mk a' b')
  | [], _, a, b, p => ⟨[], a, b, p, by simp, rfl, rfl⟩
  | d :: ds, h, a, b, p => by
    obtain ⟨y, a1, b1, ρ', p1, q1, e1, w1⟩ := h d (List.mem_cons_self ..) a b p
    obtain ⟨ys, a2, b2, p2, q2, l2, e2⟩ := lc_pot ds (fun x hx => h x (List.mem_cons_of_mem _ hx)) a1 b1 p1
    refine ⟨y :: ys, a2, b2, p2, fun z hz => ?_, by simp [l2], ?_⟩
    · rcases List.mem_cons.mp hz with rfl | hz
      · exact q1
      · exact q2 z hz
    · rw [List.map_cons]
      refine lc_cons e1 ?_
      rw [w1]
      exact e2
theorem for_pot {α : Type} {g : RV → M Unit} {body : M Flow} {mk : Int → Int → α → List (Option Slot) → Rho} {I : Nat → α → Prop} {N : Nat} : ∀ (ds : List D) (k : Nat), k + ds.length ≤ N → (∀ d ∈ ds, ∀ a b x l j, PotOk a b → j < N → I j x → ∃ (ρ1 : Rho) (a' b' : Int) (x' : α) (l' : List (Option Slot)), PotOk a' b' ∧ I (j + 1) x' ∧ g (.val d) (mk a b x l) = .ok () ρ1 ∧ body ρ1 = .ok .nx (mk a' b' x' l')) → ∀ a b x l, PotOk a b → I k x →
    ∃ (a' b' : Int) (x' : α) (l' : List (Option Slot)), PotOk a' b' ∧ I (k + ds.length) x' ∧ forL g body ds (mk a b x l) = .ok .nx (mk a' b' x' l')
  | [], k, _, _, a, b, x, l, p, i => ⟨a, b, x, l, p, i, rfl⟩
  | d :: ds, k, hN, h, a, b, x, l, p, i => by
    rw [List.length_cons] at hN
    obtain ⟨ρ1, a1, b1, x1, l1, p1, i1, e1, e2⟩ := h d (List.mem_cons_self ..) a b x l k p (by omega) i
    obtain ⟨a2, b2, x2, l2, p2, i2, e3⟩ := for_pot ds (k + 1) (by omega) (fun d hd => h d (List.mem_cons_of_mem _ hd)) a1 b1 x1 l1 p1 i1
    refine ⟨a2, b2, x2, l2, p2, by rw [List.length_cons]; rw [Nat.add_right_comm] at i2; exact i2, ?_⟩
    rw [for_cons e1 e2, e3]
theorem dr {n : Int} {tl : Rho} {a b : Int} (hp : PotOk a b) (h1 : 0 < n) (h2 : n < 1073741824) : ∃ (d : Nat) (a' b' : Int), PotOk a' b' ∧ (d : Int) < n ∧
    mCall 2 [true, false] F__law_draw (mCons (mPlF 0) (mCons (mVal (.int n)) mNil)) (some (.par (potO a b)) :: tl) = .ok (.val (.int (d : Nat))) (some (.par (potO a' b')) :: tl) := by
  obtain ⟨d, a', b', ρ', hp', d0, d1, e⟩ := drawOk a b n hp h1 h2
  refine ⟨d.toNat, a', b', hp', by omega, ?_⟩
  have : ((d.toNat : Nat) : Int) = d := by omega
  rw [this]
  have h1 : mCons (mPlF 0) (mCons (mVal (.int n)) mNil) (some (.par (potO a b)) :: tl) = .ok [.pl 0, .val (.int n)] (some (.par (potO a b)) :: tl) := rfl
  have e : F__law_draw (.par (potO a b) :: [D.int n].map .val) = .ok (.val (.int d)) (some (.par (potO a' b')) :: ρ') := e
  have cc : mCall 2 [true, false] F__law_draw (mCons (mPlF 0) (mCons (mVal (.int n)) mNil)) (some (.par (potO a b)) :: tl) = .ok (.val (.int d)) ((some (.par (potO a b)) :: tl).set 0 (some (.par (potO a' b')))) := callP h1 rfl rfl e rfl rfl
  exact cc
theorem sm_le {p : P3} {b : Nat} (h : p.le b) (hb : b < 2 ^ 9000) : ∀ n ∈ p.list, Sm n := fun n hn => Nat.lt_of_le_of_lt (h.all n hn) hb
theorem opNotIn_v3 {q : P3} {acc : List P3} : opNotIn (v3 false q) (.lst (acc.map (v3 false))) = some (.val (.bl (!decide (q ∈ acc)))) := by
  have h := opIn_v3 (q := q) (acc := acc)
  have h2 : (match inQ (v3 false q) (acc.map (v3 false)) with
    | some b => rB b
    | none => none) = some (RV.val (.bl (decide (q ∈ acc)))) := h
  show (match inQ (v3 false q) (acc.map (v3 false)) with
    | some b => rB (!b)
    | none => none) = _
  cases e : inQ (v3 false q) (acc.map (v3 false)) with
  | none => rw [e] at h2; cases h2
  | some b => rw [e] at h2; cases h2; rfl
def P3.plus (p q : P3) : P3 := ⟨p.x + q.x, p.y + q.y, p.z + q.z⟩
theorem plus_le {p q : P3} {a b : Nat} (hp : p.le a) (hq : q.le b) : (p.plus q).le (a + b) := by
  obtain ⟨h1, h2, h3⟩ := hp
  obtain ⟨k1, k2, k3⟩ := hq
  refine ⟨?_, ?_, ?_⟩ <;> (unfold P3.plus; dsimp only; omega)
theorem led_inj {T : M3} {p q : P3} (hd : det3 T ≠ 0) (hp : p.nz) (hq : q.nz) (tp : plainP p = p) (tq : plainP q = q) (h : plainP (app3 T p) = plainP (app3 T q)) : p = q := by
  have h1 : Pr (app3 T p) (app3 T q) := (Pr.plain (app_nz hd hp)).symm.trans (h ▸ Pr.plain (app_nz hd hq))
  have h2 := (Tr.refl (adj3 T)).app h1
  rw [app_adj, app_adj] at h2
  have h3 : Pr p q := ((Pr.smul hd p).symm.trans h2).trans (Pr.smul hd q)
  have := h3.eq hp hq
  rw [tp, tq] at this
  exact this
theorem nodup_map {α β : Type} {f : α → β} : ∀ {l : List α}, (∀ x ∈ l, ∀ y ∈ l, f x = f y → x = y) → l.Nodup → (l.map f).Nodup
  | [], _, _ => by simp
  | a :: l, h, n => by
    rw [List.nodup_cons] at n
    rw [List.map_cons, List.nodup_cons]
    refine ⟨fun m => ?_, nodup_map (fun x hx y hy => h x (List.mem_cons_of_mem _ hx) y (List.mem_cons_of_mem _ hy)) n.2⟩
    obtain ⟨y, hy, e⟩ := List.mem_map.mp m
    exact n.1 (h y (List.mem_cons_of_mem _ hy) a (List.mem_cons_self ..) e ▸ hy)
def ledP (T : M3) (p : P3) : P3 := plainP (app3 T p)
theorem Told.rot {ps : List P3} {b k : Nat} (h : Told ps b) : Told (ps.drop k ++ ps.take k) b := by
  have e : (ps.drop k ++ ps.take k).Perm ps := by
    refine List.perm_append_comm.trans ?_
    rw [List.take_append_drop]
  exact ⟨e.nodup_iff.mpr h.nd, fun p hp => h.pt p (e.mem_iff.mp hp)⟩
theorem Told.mono {ps : List P3} {b c : Nat} (h : Told ps b) (hc : b ≤ c) : Told ps c := ⟨h.nd, fun p hp => ⟨(h.pt p hp).1, (h.pt p hp).2.1, (h.pt p hp).2.2.mono hc⟩⟩
theorem drE {n : Nat} {f : M RV} {tl : Rho} {a b : Int} (hp : PotOk a b) (h1 : 0 < n) (h2 : n < 1073741824) (hf : ∀ a b, f (some (.par (potO a b)) :: tl) = .ok (.val (.int (n : Nat))) (some (.par (potO a b)) :: tl)) : ∃ (d : Nat) (a' b' : Int), PotOk a' b' ∧ d < n ∧
    mCall 2 [true, false] F__law_draw (mCons (mPlF 0) (mCons f mNil)) (some (.par (potO a b)) :: tl) = .ok (.val (.int (d : Nat))) (some (.par (potO a' b')) :: tl) := by
  obtain ⟨d, a', b', ρ', hp', d0, d1, e⟩ := drawOk a b n hp (by omega) (by omega)
  refine ⟨d.toNat, a', b', hp', by omega, ?_⟩
  have : ((d.toNat : Nat) : Int) = d := by omega
  rw [this]
  have h1 : mCons (mPlF 0) (mCons f mNil) (some (.par (potO a b)) :: tl) = .ok [.pl 0, .val (.int (n : Nat))] (some (.par (potO a b)) :: tl) := cons_ok (f := mPlF 0) (r := .pl 0) rfl (cons_ok (g := mNil) (hf a b) rfl)
  have e : F__law_draw (.par (potO a b) :: [D.int (n : Nat)].map .val) = .ok (.val (.int d)) (some (.par (potO a' b')) :: ρ') := e
  have cc : mCall 2 [true, false] F__law_draw (mCons (mPlF 0) (mCons f mNil)) (some (.par (potO a b)) :: tl) = .ok (.val (.int d)) ((some (.par (potO a b)) :: tl).set 0 (some (.par (potO a' b')))) := callP h1 rfl rfl e rfl rfl
  exact cc
theorem len_pts {ps : List P3} {t : Bool} : bLen [.lst (ps.map (v3 t))] = some (.val (.int (ps.length : Nat))) := by
  show some (RV.val (D.int ((ps.map (v3 t)).length : Nat))) = _
  rw [List.length_map]
abbrev spO (ps : List P3) : Option Slot := some (.own (.ins "Spots" (spF ps)))
abbrev spV' (ps : List P3) : Option Slot := some (.val (spD ps))
theorem Told.spots {ps : List P3} {b : Nat} (h : Told ps b) (hb : b ≤ 1000000) (h0 : 0 < ps.length) (hz : ps.length ≤ 24) : ∃ ρ', F_Spots_init [.par (.ins "Spots" []), .val (.lst (ps.map (v3 false)))] = .ok (.val .non) (some (.par (.ins "Spots" (spF ps))) :: ρ') := by
  have e1 : (ps.map fun p => ((false, p) : Bool × P3)).map ptD = ps.map (v3 false) := by rw [List.map_map]; rfl
  have e2 : (ps.map fun p => ((false, p) : Bool × P3)).map (fun x => plainP x.2) = ps := by
    rw [List.map_map]
    conv => rhs; rw [← List.map_id ps]
    exact List.map_congr_left fun p hp => (h.pt p hp).2.1
  obtain ⟨ρ', e⟩ := ret_Spots (t := true) (l := ps.map fun p => ((false, p) : Bool × P3)) (fun x hx => by
    obtain ⟨p, hp, rfl⟩ := List.mem_map.mp hx
    exact ⟨(h.pt p hp).1, (h.pt p hp).2.2.mono (by omega)⟩) (by rw [e2]; exact h.nd) (by rw [List.length_map]; omega) (by rw [List.length_map]; omega)
  rw [e1, e2] at e
  exact ⟨ρ', e⟩
def SpS (s : Option Slot) (ps : List P3) : Prop := s = spO ps ∨ s = spV' ps
section
variable {ps : List P3}
theorem Told.le38 {b : Nat} (h : Told ps b) (hb : b ≤ 1000000) : ∀ p ∈ ps, p.le (2 ^ 38) := fun p hp => (h.pt p hp).2.2.mono (Nat.le_trans hb (by decide))
end
theorem okF_il (r : List Int) (n : Nat) : okF (n + 1) (il r) = true := by
  show ((r.map D.int).all (okF n)) = true
  rw [List.all_map]
  exact List.all_eq_true.mpr fun x _ => by cases n <;> rfl
theorem eqQ_ints (l : List Int) : eqQ (.lst (l.map D.int)) (.lst (l.map D.int)) = some true := by
  have h1 : ∀ l : List Int, eqLs (eqF 7) (l.map D.int) (l.map D.int) = true := fun l => by
    induction l with
    | nil => rfl
    | cons a l ih => simp [eqLs, eqF, ih]
  show (if (okF 8 (il l) && okF 8 (il l)) = true then some (eqF 8 (il l) (il l)) else eqG _ _) = _
  rw [okF_il l 7, if_pos (by rfl)]
  exact congrArg some (h1 l)
theorem ne_ints {f g : M RV} {ρ ρ1 ρ2 : Rho} (l : List Int) (h1 : f ρ = .ok (.own (.lst (l.map D.int))) ρ1) (h2 : g ρ1 = .ok (.own (.lst (l.map D.int))) ρ2) : mB (mOp opNe f g) ρ = .ok false ρ2 :=
  B_ok (op_ok h1 h2 rfl rfl (ne_of (eqQ_ints l)))
theorem led_told {T : M3} {ps : List P3} {a b c : Nat} (hd : det3 T ≠ 0) (hT : T.le a) (h : Told ps b) (hc : 3 * (a * b) ≤ c) : Told (ps.map (ledP T)) c := ⟨nodup_map (fun x hx y hy e => led_inj hd (h.pt x hx).1 (h.pt y hy).1 (h.pt x hx).2.1 (h.pt y hy).2.1 e) h.nd, fun p hp => by
  obtain ⟨q, hq, rfl⟩ := List.mem_map.mp hp
  have n := app_nz hd (h.pt q hq).1
  exact ⟨plainP_nz n, plainP_plainP n, (over_le n (app_le hT (h.pt q hq).2.2)).mono hc⟩⟩
end
end VE

set_option exponentiation.threshold 10000
namespace VE
open PySem PySem.Spec PyProof.Rows L2 G0 RK
noncomputable section
/-! ### the row of points, its end and top -/
def hL (ps : List P3) (k : Nat) : List Int := (List.range (k + 1)).map fun d => ((hN ps d : Nat) : Int)
theorem hL_succ (ps : List P3) (k : Nat) : hL ps (k + 1) = hL ps k ++ [((hN ps (k + 1) : Nat) : Int)] := by
  unfold hL
  rw [List.range_succ (n := k + 1), List.map_append]
  rfl
theorem hL_last (ps : List P3) (k : Nat) : ∃ xs, hL ps k = xs ++ [((hN ps k : Nat) : Int)] := ⟨_, by unfold hL; rw [List.range_succ, List.map_append]; rfl⟩
theorem hL_len (ps : List P3) (k : Nat) : (hL ps k).length = k + 1 := by simp [hL]
def rsC : M Bool := (mB (mOp opLt (mOp opIx (mPlF 1) (mUn opNeg (mVal (.int 1)))) (mProp "Spots" "size" F_Spots_size (mPlF 0))))
def rsB : M Flow := (sSeq (sIf (mB (mOp opGt (mC bLen (mCons (mPlF 1) mNil)) (mVal (.int 8)))) (fun _ => .bad) sNx)
      (sExp (mMut opAppend 1 (mCons (mCall 2 [false, false] F_conditions (mCons (mPlF 0) (mCons (mC bLen (mCons (mPlF 1) mNil)) mNil))) mNil))))
section
variable {ps : List P3} {e : Nat}
abbrev stRs (ps : List P3) (acc : List Int) : Rho := [some (.val (spD ps)), some (.own (.lst (acc.map D.int)))]
theorem len_ints {l : List Int} : bLen [.lst (l.map D.int)] = some (.val (.int (l.length : Nat))) := by
  show some (RV.val (D.int ((l.map D.int).length : Nat))) = _
  rw [List.length_map]
theorem rs_cond (k : Nat) : rsC (stRs ps (hL ps k)) = .ok (decide (hN ps k < ps.length)) (stRs ps (hL ps k)) := by
  obtain ⟨xs, hx⟩ := hL_last ps k
  have m1 : mOp opIx (mPlF 1) (mUn opNeg (mVal (.int 1))) (stRs ps (hL ps k)) = .ok (.val (.int (hN ps k : Nat))) (stRs ps (hL ps k)) := by
    refine op_ok (f := mPlF 1) (g := mUn opNeg (mVal (.int 1))) (r1 := .pl 1) rfl (r2 := .val (.int (-1))) rfl rfl rfl ?_
    show opIx (.lst ((hL ps k).map D.int)) (.int (-1)) = _
    rw [hx, List.map_append]
    exact ix_last
  have d : decide (hN ps k < ps.length) = decide (((hN ps k : Nat) : Int) < ((ps.length : Nat) : Int)) := decide_eq_decide.mpr (by omega)
  rw [d]
  exact B_ok (op_ok m1 (size_ok (ps := ps) (f := mPlF 0) rfl rfl) rfl rfl rfl)
theorem rs_body {k : Nat} (hp : ∀ p ∈ ps, p.le (2 ^ 38)) (h0 : 0 < ps.length) (hz : ps.length ≤ 24) (hk : k + 1 ≤ 8) : rsB (stRs ps (hL ps k)) = .ok .nx (stRs ps (hL ps (k + 1))) := by
  obtain ⟨ρ1, e1⟩ := (ret_conditions (d := k + 1) hp (by omega) h0 hz).ex
  have c1 : mB (mOp opGt (mC bLen (mCons (mPlF 1) mNil)) (mVal (.int 8))) (stRs ps (hL ps k)) = .ok false (stRs ps (hL ps k)) := by
    refine B_ok (op_ok (C_ok (c := bLen) (cons_ok (f := mPlF 1) (g := mNil) rfl rfl) rfl len_ints) (g := mVal (.int 8)) rfl rfl rfl ?_)
    rw [opGt_int, hL_len, decide_eq_false (by omega)]
  have c2 : mC bLen (mCons (mPlF 1) mNil) (stRs ps (hL ps k)) = .ok (.val (.int ((k + 1 : Nat) : Int))) (stRs ps (hL ps k)) := C_ok (c := bLen) (cons_ok (f := mPlF 1) (g := mNil) rfl rfl) rfl (by rw [← hL_len ps k]; exact len_ints)
  have c3 : mCall 2 [false, false] F_conditions (mCons (mPlF 0) (mCons (mC bLen (mCons (mPlF 1) mNil)) mNil)) (stRs ps (hL ps k)) = .ok (.val (.int (hN ps (k + 1) : Nat))) (stRs ps (hL ps k)) := call_gen (ds := [spD ps, .int ((k + 1 : Nat) : Int)]) (cons_ok (f := mPlF 0) rfl (cons_ok (g := mNil) c2 rfl)) rfl e1 rfl rfl
  have a := append_ok (i := 1) (ρ := stRs ps (hL ps k)) (xs := (hL ps k).map D.int) (d := .int (hN ps (k + 1) : Nat)) rfl (cons_ok (g := mNil) c3 rfl) (by rw [List.length_map, hL_len]; exact Nat.lt_of_le_of_lt (by omega : k + 1 ≤ 9) (by decide))
  refine seq_nx (if_ok c1 rfl) (exp_ok (r := .val .non) ?_)
  have e2 : (hL ps (k + 1)).map D.int = (hL ps k).map D.int ++ [D.int (hN ps (k + 1) : Nat)] := by rw [hL_succ, List.map_append]; rfl
  rw [a]
  show _ = Res.ok _ [some (.val (spD ps)), some (.own (.lst ((hL ps (k + 1)).map D.int)))]
  rw [e2]
  rfl
/-- where the counts end -/
structure EndOk (ps : List P3) (e : Nat) : Prop where
  le : e ≤ 8
  lt : ∀ d, d < e → hN ps d < ps.length
  eq : hN ps e = ps.length
theorem rs_loop (hp : ∀ p ∈ ps, p.le (2 ^ 38)) (h0 : 0 < ps.length) (hz : ps.length ≤ 24) (h : EndOk ps e) : ∀ (m k n : Nat), k + m = e → m < n → whL rsC rsB n (stRs ps (hL ps k)) = .ok .nx (stRs ps (hL ps e))
  | m, k, 0, _, hn => absurd hn (Nat.not_lt_zero _)
  | 0, k, n + 1, hk, _ => by
    have c := rs_cond (ps := ps) k
    obtain rfl : k = e := by omega
    rw [decide_eq_false (by rw [h.eq]; omega)] at c
    exact wh_false c
  | m + 1, k, n + 1, hk, hn => by
    have c := rs_cond (ps := ps) k
    rw [decide_eq_true (h.lt k (by omega))] at c
    have := h.le
    rw [wh_true c (rs_body hp h0 hz (by omega))]
    exact rs_loop hp h0 hz h m (k + 1) n (by omega) (by omega)
theorem ret_rising (hp : ∀ p ∈ ps, p.le (2 ^ 38)) (h0 : 0 < ps.length) (hz : ps.length ≤ 24) (h : EndOk ps e) : Ret F_rising_counts [.val (spD ps)] (.own (.lst ((hL ps e).map D.int))) := by
  obtain ⟨ρ1, e1⟩ := (ret_check_spots (ps := ps)).ex
  obtain ⟨ρ2, e2⟩ := (ret_conditions (d := 0) hp (by omega) h0 hz).ex
  have c2 : mCall 2 [false, false] F_conditions (mCons (mPlF 0) (mCons (mVal (.int 0)) mNil)) [some (.val (spD ps)), none] = .ok (.val (.int (hN ps 0 : Nat))) [some (.val (spD ps)), none] := call_gen (ds := [spD ps, .int ((0 : Nat) : Int)]) rfl rfl e2 rfl rfl
  have s2 : sAsg (mLst (mCons (mCall 2 [false, false] F_conditions (mCons (mPlF 0) (mCons (mVal (.int 0)) mNil))) mNil)) (gNF 1) [some (.val (spD ps)), none] = .ok .nx (stRs ps (hL ps 0)) := asg_val (lst_ok (cons_ok (g := mNil) c2 rfl) rfl rfl) rfl
  have l := rs_loop hp h0 hz h e 0 fuel (by omega) (by unfold fuel; have := h.le; omega)
  exact ret_of (rt_of (seq_nx (exp_ok (call_gen (ds := [spD ps]) rfl rfl e1 rfl rfl)) (seq_nx s2 (seq_nx l (ret_ok (f := mPlF 1) rfl rfl)))))
def rowI (ps : List P3) (e : Nat) : List Int := (List.zip (hL ps e) (0 :: hL ps e)).map fun x => x.1 - x.2
theorem ret_numbers (hp : ∀ p ∈ ps, p.le (2 ^ 38)) (h0 : 0 < ps.length) (hz : ps.length ≤ 24) (h : EndOk ps e) : Ret F_numbers_of [.val (spD ps)] (.own (.lst ((rowI ps e).map D.int))) := by
  obtain ⟨ρ1, e1⟩ := (ret_rising hp h0 hz h).ex
  have hl := hL_len ps e
  have he := h.le
  unfold rowI
  generalize hL ps e = cs at *
  have s1 : sAsg (mCall 1 [false] F_rising_counts (mCons (mPlF 0) mNil)) (gNF 1) [some (.val (spD ps)), none, none, none] = .ok .nx [some (.val (spD ps)), some (.own (.lst (cs.map D.int))), none, none] := asg_val (call_gen (ds := [spD ps]) rfl rfl e1 rfl rfl) rfl
  have ad : opAdd (.lst [.int 0]) (.lst (cs.map D.int)) = some (.own (.lst ((0 :: cs).map D.int))) := by
    show (if szOk ([D.int 0].length + (cs.map D.int).length) then some (RV.own (.lst ([D.int 0] ++ cs.map D.int))) else none) = _
    rw [if_pos (decide_eq_true (Nat.le_trans (by simp; omega : _ ≤ 100) (by decide)))]
    rfl
  have z1 : mZip (mCons (mPlF 1) (mCons (mOp opAdd (mLst (mCons (mVal (.int 0)) mNil)) (mPlF 1)) mNil)) [some (.val (spD ps)), some (.own (.lst (cs.map D.int))), none, none] = .ok ((List.zip cs (0 :: cs)).map fun x => .tup [.int x.1, .int x.2]) [some (.val (spD ps)), some (.val (.lst (cs.map D.int))), none, none] := by
    unfold mZip
    rw [bind_ok (cons_ok (f := mPlF 1) (r := .pl 1) rfl (cons_ok (g := mNil) (op_ok (f := mLst (mCons (mVal (.int 0)) mNil)) (g := mPlF 1) rfl rfl rfl rfl ad) rfl)), ← zip_il]
    rfl
  have l1 : lcL (gT 2 (gCons (gNF 2) (gCons (gNF 3) gNil))) tt1 (mOp opSub (mPlF 2) (mPlF 3)) [2, 3] ((List.zip cs (0 :: cs)).map fun x => .tup [.int x.1, .int x.2]) [some (.val (spD ps)), some (.val (.lst (cs.map D.int))), none, none] = .ok ((List.zip cs (0 :: cs)).map fun x => .int (x.1 - x.2)) [some (.val (spD ps)), some (.val (.lst (cs.map D.int))), none, none] :=
    lc_map _ fun x _ => ⟨[some (.val (spD ps)), some (.val (.lst (cs.map D.int))), some (.val (.int x.1)), some (.val (.int x.2))], rfl, rfl⟩
  have q := mLC_ok (vs := [2, 3]) (ρ := [some (.val (spD ps)), some (.own (.lst (cs.map D.int))), none, none]) z1 l1
  have e3 : ((List.zip cs (0 :: cs)).map fun x => x.1 - x.2).map D.int = (List.zip cs (0 :: cs)).map fun x => .int (x.1 - x.2) := by rw [List.map_map]; rfl
  rw [e3]
  exact ret_of (rt_of (seq_nx s1 (ret_ok q rfl)))
theorem ret_row (hp : ∀ p ∈ ps, p.le (2 ^ 38)) (h0 : 0 < ps.length) (hz : ps.length ≤ 24) (h : EndOk ps e) : Ret F_row [.val (spD ps)] (.own (.lst ((rowI ps e).map D.int))) := by
  obtain ⟨ρ1, e1⟩ := (ret_numbers hp h0 hz h).ex
  exact ret_of (rt_of (ret_ok (call_gen (ds := [spD ps]) rfl rfl e1 rfl rfl) rfl))
theorem ret_end (hp : ∀ p ∈ ps, p.le (2 ^ 38)) (h0 : 0 < ps.length) (hz : ps.length ≤ 24) (h : EndOk ps e) : Ret F_end [.val (spD ps)] (.val (.int (e : Nat))) := by
  obtain ⟨ρ1, e1⟩ := (ret_rising hp h0 hz h).ex
  have g : opSub (.int ((hL ps e).length : Nat)) (.int 1) = some (.val (.int (e : Nat))) := by
    show some (RV.val (D.int (((hL ps e).length : Nat) - 1 : Int))) = _
    rw [hL_len]
    congr 3
    omega
  exact ret_of (rt_of (ret_ok (op_ok (C_ok (c := bLen) (cons_ok (g := mNil) (call_gen (ds := [spD ps]) rfl rfl e1 rfl rfl) rfl) rfl len_ints) (g := mVal (.int 1)) rfl rfl rfl g) rfl))
/-! ### the top -/
structure TopOk (ps : List P3) (s : Nat) : Prop where
  le : s ≤ 9
  eq : ∀ d, d < s → hN ps d = (trip d).length
  ne : hN ps s ≠ (trip s).length
theorem tp_loop {s : Nat} (hp : ∀ p ∈ ps, p.le (2 ^ 38)) (h0 : 0 < ps.length) (hz : ps.length ≤ 24) (h : TopOk ps s) : ∀ (m k n : Nat), k + m = s → m < n → whL (mB (mOp opEq (mCall 2 [false, false] F_count_through (mCons (mPlF 0) (mCons (mPlF 1) mNil))) (mVal (.int 0)))) (sAugF 1 (· + ·) (mVal (.int 1))) n [some (.val (spD ps)), some (.val (.int (k : Nat)))] = .ok .nx [some (.val (spD ps)), some (.val (.int (s : Nat)))]
  | m, k, 0, _, hn => absurd hn (Nat.not_lt_zero _)
  | m, k, n + 1, hk, hn => by
    have hs := h.le
    obtain ⟨ρ1, e1⟩ := (ret_count_through (d := k) hp (by omega) h0 hz).ex
    have c : mB (mOp opEq (mCall 2 [false, false] F_count_through (mCons (mPlF 0) (mCons (mPlF 1) mNil))) (mVal (.int 0))) [some (.val (spD ps)), some (.val (.int (k : Nat)))] = .ok (decide ((((trip k).length : Nat) - (hN ps k : Nat) : Int) = 0)) [some (.val (spD ps)), some (.val (.int (k : Nat)))] :=
      B_ok (op_ok (call_gen (ds := [spD ps, .int (k : Nat)]) rfl rfl e1 rfl rfl) (g := mVal (.int 0)) rfl rfl rfl opEq_int)
    cases m with
    | zero =>
      obtain rfl : k = s := by omega
      have := h.ne
      rw [decide_eq_false (by omega)] at c
      exact wh_false c
    | succ m =>
      have := h.eq k (by omega)
      rw [decide_eq_true (by omega)] at c
      have b : sAugF 1 (· + ·) (mVal (.int 1)) [some (.val (spD ps)), some (.val (.int (k : Nat)))] = .ok .nx [some (.val (spD ps)), some (.val (.int ((k + 1 : Nat) : Int)))] := rfl
      rw [wh_true c b]
      exact tp_loop hp h0 hz h m (k + 1) n (by omega) (by omega)
theorem ret_top {s : Nat} (hp : ∀ p ∈ ps, p.le (2 ^ 38)) (h0 : 0 < ps.length) (hz : ps.length ≤ 24) (h : TopOk ps s) : Ret F_top [.val (spD ps)] (.val (.int (s : Nat))) := by
  obtain ⟨ρ1, e1⟩ := (ret_check_spots (ps := ps)).ex
  have l := tp_loop hp h0 hz h s 0 fuel (by omega) (by unfold fuel; have := h.le; omega)
  exact ret_of (rt_of (seq_nx (exp_ok (call_gen (ds := [spD ps]) rfl rfl e1 rfl rfl)) (seq_nx (asg_val (f := mVal (.int 0)) rfl rfl) (seq_nx l (ret_ok (f := mPlF 1) rfl rfl)))))
end
end
end VE

set_option exponentiation.threshold 10000
namespace VE
open PySem PySem.Spec PyProof.Rows L2 G0 RK
noncomputable section
/-- Spots moved by a table -/
theorem ret_moved {T : M3} {t t1 t2 t4 : Bool} {ps : List P3} {a b : Nat} (hT : T.le a) (ha : a ≤ 300) (d : det3 T ≠ 0) (h : Told ps b) (hb : b ≤ 1000) (h0 : 0 < ps.length) (hz : ps.length ≤ 24) : Ret F_moved [.val (spD ps), .val (t3 t t1 t2 t4 T)] (.own (.ins "Spots" (spF (ps.map (ledP T))))) := by
  have hT' : T.le 1267650600228229401496703205376 := hT.mono (by omega)
  obtain ⟨ρ5, e5⟩ := (ret_check_spots (ps := ps)).ex
  obtain ⟨ρ6, e6⟩ := (ret_check_table (t := t) (t1 := t1) (t2 := t2) (t4 := t4) hT' d).ex
  have tl := led_told d hT h (Nat.le_refl _)
  obtain ⟨ρ7, e7⟩ := tl.spots (by have := Nat.mul_le_mul ha hb; omega) (by rw [List.length_map]; exact h0) (by rw [List.length_map]; exact hz)
  have l : lcL (gNF 2) tt1 (mCall 2 [false, false] F_led (mCons (mPlF 1) (mCons (mPlF 2) mNil))) [2] (ps.map (v3 false)) [some (.val (spD ps)), some (.val (t3 t t1 t2 t4 T)), none] = .ok (ps.map fun p => v3 false (ledP T p)) [some (.val (spD ps)), some (.val (t3 t t1 t2 t4 T)), none] :=
    lc_map _ fun p hp => by
      obtain ⟨pn, pp, pb⟩ := h.pt p hp
      obtain ⟨ρ1, e1⟩ := (ret_led (t := t) (t1 := t1) (t2 := t2) (t4 := t4) (u := false) hT' d pn (pb.mono (by omega)) (app_nz d (plainP_nz pn))).ex
      rw [pp] at e1
      exact ⟨_, turn_ok (ρ1 := [some (.val (spD ps)), some (.val (t3 t t1 t2 t4 T)), some (.val (v3 false p))]) rfl rfl (call_gen (ds := [t3 t t1 t2 t4 T, v3 false p]) rfl rfl e1 rfl rfl) rfl, rfl⟩
  have it : mIt (mMeth "Spots" "points" 1 F_Spots_points (mPlF 0) mNil) [some (.val (spD ps)), some (.val (t3 t t1 t2 t4 T)), none] = .ok (ps.map (v3 false)) [some (.val (spD ps)), some (.val (t3 t t1 t2 t4 T)), none] := it_own (pts_ok (ps := ps) (f := mPlF 0) rfl rfl rfl)
  have q := mLC_ok (vs := [2]) it l
  have e3 : (ps.map fun p => v3 false (ledP T p)) = (ps.map (ledP T)).map (v3 false) := by rw [List.map_map]; rfl
  rw [e3] at q
  exact ret_of (rt_of (seq_nx (exp_ok (call_gen (ds := [spD ps]) rfl rfl e5 rfl rfl)) (seq_nx (exp_ok (call_gen (ds := [t3 t t1 t2 t4 T]) rfl rfl e6 rfl rfl)) (ret_ok (new_ok (ds := [.lst ((ps.map (ledP T)).map (v3 false))]) (cons_ok (g := mNil) q rfl) rfl rfl e7) rfl))))
end
end VE

set_option exponentiation.threshold 10000
namespace VE
open PySem PySem.Spec PyProof.Rows L2 G0 RK
noncomputable section
def rowsL : List (List Nat) := [[1], [1, 1], [1, 1, 1], [1, 1, 1, 1], [1, 1, 1, 1, 1], [1, 1, 1, 1, 1, 1], [1, 1, 1, 1, 1, 1, 1], [1, 1, 1, 1, 1, 1, 1, 1], [1, 1, 1, 1, 1, 1, 1, 1, 1], [1, 2], [1, 2, 1], [1, 2, 1, 1], [1, 2, 1, 1, 1], [1, 2, 1, 1, 1, 1], [1, 2, 1, 1, 1, 1, 1], [1, 2, 1, 1, 1, 1, 1, 1], [1, 2, 1, 1, 1, 1, 1, 1, 1], [1, 2, 2], [1, 2, 2, 1], [1, 2, 2, 1, 1], [1, 2, 2, 1, 1, 1], [1, 2, 2, 1, 1, 1, 1], [1, 2, 2, 1, 1, 1, 1, 1], [1, 2, 2, 1, 1, 1, 1, 1, 1], [1, 2, 2, 2], [1, 2, 2, 2, 1], [1, 2, 2, 2, 1, 1], [1, 2, 2, 2, 1, 1, 1], [1, 2, 2, 2, 1, 1, 1, 1], [1, 2, 2, 2, 1, 1, 1, 1, 1], [1, 2, 2, 2, 2], [1, 2, 2, 2, 2, 1], [1, 2, 2, 2, 2, 1, 1], [1, 2, 2, 2, 2, 1, 1, 1], [1, 2, 2, 2, 2, 2], [1, 2, 2, 2, 2, 2, 1], [1, 2, 3], [1, 2, 3, 1], [1, 2, 3, 1, 1], [1, 2, 3, 1, 1, 1], [1, 2, 3, 1, 1, 1, 1], [1, 2, 3, 1, 1, 1, 1, 1], [1, 2, 3, 1, 1, 1, 1, 1, 1], [1, 2, 3, 2], [1, 2, 3, 2, 1], [1, 2, 3, 2, 1, 1], [1, 2, 3, 2, 1, 1, 1], [1, 2, 3, 2, 1, 1, 1, 1], [1, 2, 3, 2, 2], [1, 2, 3, 2, 2, 1], [1, 2, 3, 2, 2, 1, 1], [1, 2, 3, 2, 2, 2], [1, 2, 3, 3], [1, 2, 3, 3, 1], [1, 2, 3, 3, 1, 1], [1, 2, 3, 3, 1, 1, 1], [1, 2, 3, 3, 2], [1, 2, 3, 3, 2, 1], [1, 2, 3, 3, 3], [1, 2, 3, 4], [1, 2, 3, 4, 1], [1, 2, 3, 4, 1, 1], [1, 2, 3, 4, 2]]
def nD (l : List Nat) : List D := l.map fun (n : Nat) => D.int (n : Nat)
/-- the points of a stair -/
def stQ : Nat → List Nat → List P3
  | _, [] => []
  | d, n :: ns => ((List.range' 0 n).map fun j => ⟨(d : Int) - (j : Nat), (j : Nat), 1⟩) ++ stQ (d + 1) ns
def topN (l : List Nat) (i : Nat) : Nat := match l with
  | [] => i
  | n :: l => if n = i + 1 then topN l (i + 1) else i
def hC (ps : List P3) (d : Nat) : Nat := (colsF 0 (trip d).length 0 (ps.map (VE.cond d)) 1).length
def bR (x : Option RV) (r : RV → Bool) : Bool := match x with
  | some v => r v
  | none => false
def psum : Nat → List Nat → List Nat
  | _, [] => []
  | a, n :: l => (a + n) :: psum (a + n) l
def leB2 (p : P3) (b : Nat) : Bool := decide (p.x.natAbs ≤ b) && (decide (p.y.natAbs ≤ b) && decide (p.z.natAbs ≤ b))
def ndB : List P3 → Bool
  | [] => true
  | p :: ps => (!ps.contains p) && ndB ps
def nbB (ps : List P3) : Bool := ps.all fun p => ((!decide (0 < p.x)) || ps.contains ⟨p.x - 1, p.y, 1⟩) && ((!decide (0 < p.y)) || ps.contains ⟨p.x, p.y - 1, 1⟩)
def okA (l : List Nat) (ps : List P3) : Bool := decide (0 < ps.length) && (decide (ps.length ≤ 12) && (decide (ps.length = l.sum) && (ndB ps && (ps.all (fun p => leB2 p 8 && (decide (p.z = 1) && decide (plainP p = p))) && nbB ps))))
def okH (l : List Nat) (ps : List P3) : Bool := decide ((List.range l.length).map (hC ps) = psum 0 l) && (((List.range (topN l 0)).all fun d => hC ps d == (trip d).length) && (hC ps (topN l 0) != (trip (topN l 0)).length))
def okL (l : List Nat) : Bool := decide (0 < l.length) && (decide (l.length ≤ 9) && (decide (topN l 0 ≤ 9) && (((psum 0 l).dropLast.all fun x => decide (x < l.sum)) && (decide ((psum 0 l).getLast? = some l.sum) && (decide ((List.zip ((psum 0 l).map Int.ofNat) (0 :: (psum 0 l).map Int.ofNat)).map (fun x => x.1 - x.2) = l.map Int.ofNat) && ((List.range l.length).all fun d => decide ((psum 0 l).getD d 0 = (l.take (d + 1)).sum)))))))
end
end VE

set_option exponentiation.threshold 10000
namespace VE
open PySem PySem.Spec PyProof.Rows L2 G0 RK
noncomputable section
theorem is_0 : resOf (F_is_row [.val (.lst (nD [1]))]) = some (.val (.bl true)) := by kernel_rfl
theorem sa_0 : resOf (F_stair [.val (.lst (nD [1]))]) = some (.own (.ins "Spots" (spF (stQ 0 [1])))) := by kernel_rfl
theorem sb_0 : resOf (F_stair [.val (.tup (nD [1]))]) = some (.own (.ins "Spots" (spF (stQ 0 [1])))) := by kernel_rfl
theorem lp_0 : resOf (F__law_points [.val (.lst (nD [1]))]) = some (.own (.lst ((stQ 0 [1]).map (v3 false)))) := by kernel_rfl
theorem lt_0 : resOf (F__law_top [.val (.lst (nD [1]))]) = some (.val (.int (topN [1] 0 : Nat))) := by kernel_rfl
theorem pf_0 : (okA [1] (stQ 0 [1]) && (okH [1] (stQ 0 [1]) && okL [1])) = true := by decide +kernel
theorem is_1 : resOf (F_is_row [.val (.lst (nD [1, 1]))]) = some (.val (.bl true)) := by kernel_rfl
theorem sa_1 : resOf (F_stair [.val (.lst (nD [1, 1]))]) = some (.own (.ins "Spots" (spF (stQ 0 [1, 1])))) := by kernel_rfl
theorem sb_1 : resOf (F_stair [.val (.tup (nD [1, 1]))]) = some (.own (.ins "Spots" (spF (stQ 0 [1, 1])))) := by kernel_rfl
theorem lp_1 : resOf (F__law_points [.val (.lst (nD [1, 1]))]) = some (.own (.lst ((stQ 0 [1, 1]).map (v3 false)))) := by kernel_rfl
theorem lt_1 : resOf (F__law_top [.val (.lst (nD [1, 1]))]) = some (.val (.int (topN [1, 1] 0 : Nat))) := by kernel_rfl
theorem pf_1 : (okA [1, 1] (stQ 0 [1, 1]) && (okH [1, 1] (stQ 0 [1, 1]) && okL [1, 1])) = true := by decide +kernel
theorem is_2 : resOf (F_is_row [.val (.lst (nD [1, 1, 1]))]) = some (.val (.bl true)) := by kernel_rfl
theorem sa_2 : resOf (F_stair [.val (.lst (nD [1, 1, 1]))]) = some (.own (.ins "Spots" (spF (stQ 0 [1, 1, 1])))) := by kernel_rfl
theorem sb_2 : resOf (F_stair [.val (.tup (nD [1, 1, 1]))]) = some (.own (.ins "Spots" (spF (stQ 0 [1, 1, 1])))) := by kernel_rfl
theorem lp_2 : resOf (F__law_points [.val (.lst (nD [1, 1, 1]))]) = some (.own (.lst ((stQ 0 [1, 1, 1]).map (v3 false)))) := by kernel_rfl
theorem lt_2 : resOf (F__law_top [.val (.lst (nD [1, 1, 1]))]) = some (.val (.int (topN [1, 1, 1] 0 : Nat))) := by kernel_rfl
theorem pf_2 : (okA [1, 1, 1] (stQ 0 [1, 1, 1]) && (okH [1, 1, 1] (stQ 0 [1, 1, 1]) && okL [1, 1, 1])) = true := by decide +kernel
theorem is_3 : resOf (F_is_row [.val (.lst (nD [1, 1, 1, 1]))]) = some (.val (.bl true)) := by kernel_rfl
theorem sa_3 : resOf (F_stair [.val (.lst (nD [1, 1, 1, 1]))]) = some (.own (.ins "Spots" (spF (stQ 0 [1, 1, 1, 1])))) := by kernel_rfl
theorem sb_3 : resOf (F_stair [.val (.tup (nD [1, 1, 1, 1]))]) = some (.own (.ins "Spots" (spF (stQ 0 [1, 1, 1, 1])))) := by kernel_rfl
theorem lp_3 : resOf (F__law_points [.val (.lst (nD [1, 1, 1, 1]))]) = some (.own (.lst ((stQ 0 [1, 1, 1, 1]).map (v3 false)))) := by kernel_rfl
theorem lt_3 : resOf (F__law_top [.val (.lst (nD [1, 1, 1, 1]))]) = some (.val (.int (topN [1, 1, 1, 1] 0 : Nat))) := by kernel_rfl
theorem pf_3 : (okA [1, 1, 1, 1] (stQ 0 [1, 1, 1, 1]) && (okH [1, 1, 1, 1] (stQ 0 [1, 1, 1, 1]) && okL [1, 1, 1, 1])) = true := by decide +kernel
theorem is_4 : resOf (F_is_row [.val (.lst (nD [1, 1, 1, 1, 1]))]) = some (.val (.bl true)) := by kernel_rfl
theorem sa_4 : resOf (F_stair [.val (.lst (nD [1, 1, 1, 1, 1]))]) = some (.own (.ins "Spots" (spF (stQ 0 [1, 1, 1, 1, 1])))) := by kernel_rfl
theorem sb_4 : resOf (F_stair [.val (.tup (nD [1, 1, 1, 1, 1]))]) = some (.own (.ins "Spots" (spF (stQ 0 [1, 1, 1, 1, 1])))) := by kernel_rfl
theorem lp_4 : resOf (F__law_points [.val (.lst (nD [1, 1, 1, 1, 1]))]) = some (.own (.lst ((stQ 0 [1, 1, 1, 1, 1]).map (v3 false)))) := by kernel_rfl
theorem lt_4 : resOf (F__law_top [.val (.lst (nD [1, 1, 1, 1, 1]))]) = some (.val (.int (topN [1, 1, 1, 1, 1] 0 : Nat))) := by kernel_rfl
theorem pf_4 : (okA [1, 1, 1, 1, 1] (stQ 0 [1, 1, 1, 1, 1]) && (okH [1, 1, 1, 1, 1] (stQ 0 [1, 1, 1, 1, 1]) && okL [1, 1, 1, 1, 1])) = true := by decide +kernel
theorem is_5 : resOf (F_is_row [.val (.lst (nD [1, 1, 1, 1, 1, 1]))]) = some (.val (.bl true)) := by kernel_rfl
theorem sa_5 : resOf (F_stair [.val (.lst (nD [1, 1, 1, 1, 1, 1]))]) = some (.own (.ins "Spots" (spF (stQ 0 [1, 1, 1, 1, 1, 1])))) := by kernel_rfl
theorem sb_5 : resOf (F_stair [.val (.tup (nD [1, 1, 1, 1, 1, 1]))]) = some (.own (.ins "Spots" (spF (stQ 0 [1, 1, 1, 1, 1, 1])))) := by kernel_rfl
theorem lp_5 : resOf (F__law_points [.val (.lst (nD [1, 1, 1, 1, 1, 1]))]) = some (.own (.lst ((stQ 0 [1, 1, 1, 1, 1, 1]).map (v3 false)))) := by kernel_rfl
theorem lt_5 : resOf (F__law_top [.val (.lst (nD [1, 1, 1, 1, 1, 1]))]) = some (.val (.int (topN [1, 1, 1, 1, 1, 1] 0 : Nat))) := by kernel_rfl
theorem pf_5 : (okA [1, 1, 1, 1, 1, 1] (stQ 0 [1, 1, 1, 1, 1, 1]) && (okH [1, 1, 1, 1, 1, 1] (stQ 0 [1, 1, 1, 1, 1, 1]) && okL [1, 1, 1, 1, 1, 1])) = true := by decide +kernel
theorem is_6 : resOf (F_is_row [.val (.lst (nD [1, 1, 1, 1, 1, 1, 1]))]) = some (.val (.bl true)) := by kernel_rfl
theorem sa_6 : resOf (F_stair [.val (.lst (nD [1, 1, 1, 1, 1, 1, 1]))]) = some (.own (.ins "Spots" (spF (stQ 0 [1, 1, 1, 1, 1, 1, 1])))) := by kernel_rfl
theorem sb_6 : resOf (F_stair [.val (.tup (nD [1, 1, 1, 1, 1, 1, 1]))]) = some (.own (.ins "Spots" (spF (stQ 0 [1, 1, 1, 1, 1, 1, 1])))) := by kernel_rfl
theorem lp_6 : resOf (F__law_points [.val (.lst (nD [1, 1, 1, 1, 1, 1, 1]))]) = some (.own (.lst ((stQ 0 [1, 1, 1, 1, 1, 1, 1]).map (v3 false)))) := by kernel_rfl
theorem lt_6 : resOf (F__law_top [.val (.lst (nD [1, 1, 1, 1, 1, 1, 1]))]) = some (.val (.int (topN [1, 1, 1, 1, 1, 1, 1] 0 : Nat))) := by kernel_rfl
theorem pf_6 : (okA [1, 1, 1, 1, 1, 1, 1] (stQ 0 [1, 1, 1, 1, 1, 1, 1]) && (okH [1, 1, 1, 1, 1, 1, 1] (stQ 0 [1, 1, 1, 1, 1, 1, 1]) && okL [1, 1, 1, 1, 1, 1, 1])) = true := by decide +kernel
theorem is_7 : resOf (F_is_row [.val (.lst (nD [1, 1, 1, 1, 1, 1, 1, 1]))]) = some (.val (.bl true)) := by kernel_rfl
theorem sa_7 : resOf (F_stair [.val (.lst (nD [1, 1, 1, 1, 1, 1, 1, 1]))]) = some (.own (.ins "Spots" (spF (stQ 0 [1, 1, 1, 1, 1, 1, 1, 1])))) := by kernel_rfl
theorem sb_7 : resOf (F_stair [.val (.tup (nD [1, 1, 1, 1, 1, 1, 1, 1]))]) = some (.own (.ins "Spots" (spF (stQ 0 [1, 1, 1, 1, 1, 1, 1, 1])))) := by kernel_rfl
theorem lp_7 : resOf (F__law_points [.val (.lst (nD [1, 1, 1, 1, 1, 1, 1, 1]))]) = some (.own (.lst ((stQ 0 [1, 1, 1, 1, 1, 1, 1, 1]).map (v3 false)))) := by kernel_rfl
theorem lt_7 : resOf (F__law_top [.val (.lst (nD [1, 1, 1, 1, 1, 1, 1, 1]))]) = some (.val (.int (topN [1, 1, 1, 1, 1, 1, 1, 1] 0 : Nat))) := by kernel_rfl
theorem pf_7 : (okA [1, 1, 1, 1, 1, 1, 1, 1] (stQ 0 [1, 1, 1, 1, 1, 1, 1, 1]) && (okH [1, 1, 1, 1, 1, 1, 1, 1] (stQ 0 [1, 1, 1, 1, 1, 1, 1, 1]) && okL [1, 1, 1, 1, 1, 1, 1, 1])) = true := by decide +kernel
theorem is_8 : resOf (F_is_row [.val (.lst (nD [1, 1, 1, 1, 1, 1, 1, 1, 1]))]) = some (.val (.bl true)) := by kernel_rfl
theorem sa_8 : resOf (F_stair [.val (.lst (nD [1, 1, 1, 1, 1, 1, 1, 1, 1]))]) = some (.own (.ins "Spots" (spF (stQ 0 [1, 1, 1, 1, 1, 1, 1, 1, 1])))) := by kernel_rfl
theorem sb_8 : resOf (F_stair [.val (.tup (nD [1, 1, 1, 1, 1, 1, 1, 1, 1]))]) = some (.own (.ins "Spots" (spF (stQ 0 [1, 1, 1, 1, 1, 1, 1, 1, 1])))) := by kernel_rfl
theorem lp_8 : resOf (F__law_points [.val (.lst (nD [1, 1, 1, 1, 1, 1, 1, 1, 1]))]) = some (.own (.lst ((stQ 0 [1, 1, 1, 1, 1, 1, 1, 1, 1]).map (v3 false)))) := by kernel_rfl
theorem lt_8 : resOf (F__law_top [.val (.lst (nD [1, 1, 1, 1, 1, 1, 1, 1, 1]))]) = some (.val (.int (topN [1, 1, 1, 1, 1, 1, 1, 1, 1] 0 : Nat))) := by kernel_rfl
theorem pf_8 : (okA [1, 1, 1, 1, 1, 1, 1, 1, 1] (stQ 0 [1, 1, 1, 1, 1, 1, 1, 1, 1]) && (okH [1, 1, 1, 1, 1, 1, 1, 1, 1] (stQ 0 [1, 1, 1, 1, 1, 1, 1, 1, 1]) && okL [1, 1, 1, 1, 1, 1, 1, 1, 1])) = true := by decide +kernel
theorem is_9 : resOf (F_is_row [.val (.lst (nD [1, 2]))]) = some (.val (.bl true)) := by kernel_rfl
theorem sa_9 : resOf (F_stair [.val (.lst (nD [1, 2]))]) = some (.own (.ins "Spots" (spF (stQ 0 [1, 2])))) := by kernel_rfl
theorem sb_9 : resOf (F_stair [.val (.tup (nD [1, 2]))]) = some (.own (.ins "Spots" (spF (stQ 0 [1, 2])))) := by kernel_rfl
theorem lp_9 : resOf (F__law_points [.val (.lst (nD [1, 2]))]) = some (.own (.lst ((stQ 0 [1, 2]).map (v3 false)))) := by kernel_rfl
theorem lt_9 : resOf (F__law_top [.val (.lst (nD [1, 2]))]) = some (.val (.int (topN [1, 2] 0 : Nat))) := by kernel_rfl
theorem pf_9 : (okA [1, 2] (stQ 0 [1, 2]) && (okH [1, 2] (stQ 0 [1, 2]) && okL [1, 2])) = true := by decide +kernel
theorem is_10 : resOf (F_is_row [.val (.lst (nD [1, 2, 1]))]) = some (.val (.bl true)) := by kernel_rfl
theorem sa_10 : resOf (F_stair [.val (.lst (nD [1, 2, 1]))]) = some (.own (.ins "Spots" (spF (stQ 0 [1, 2, 1])))) := by kernel_rfl
theorem sb_10 : resOf (F_stair [.val (.tup (nD [1, 2, 1]))]) = some (.own (.ins "Spots" (spF (stQ 0 [1, 2, 1])))) := by kernel_rfl
theorem lp_10 : resOf (F__law_points [.val (.lst (nD [1, 2, 1]))]) = some (.own (.lst ((stQ 0 [1, 2, 1]).map (v3 false)))) := by kernel_rfl
theorem lt_10 : resOf (F__law_top [.val (.lst (nD [1, 2, 1]))]) = some (.val (.int (topN [1, 2, 1] 0 : Nat))) := by kernel_rfl
theorem pf_10 : (okA [1, 2, 1] (stQ 0 [1, 2, 1]) && (okH [1, 2, 1] (stQ 0 [1, 2, 1]) && okL [1, 2, 1])) = true := by decide +kernel
end
end VE

set_option exponentiation.threshold 10000
namespace VE
open PySem PySem.Spec PyProof.Rows L2 G0 RK
noncomputable section
theorem is_11 : resOf (F_is_row [.val (.lst (nD [1, 2, 1, 1]))]) = some (.val (.bl true)) := by kernel_rfl
theorem sa_11 : resOf (F_stair [.val (.lst (nD [1, 2, 1, 1]))]) = some (.own (.ins "Spots" (spF (stQ 0 [1, 2, 1, 1])))) := by kernel_rfl
theorem sb_11 : resOf (F_stair [.val (.tup (nD [1, 2, 1, 1]))]) = some (.own (.ins "Spots" (spF (stQ 0 [1, 2, 1, 1])))) := by kernel_rfl
theorem lp_11 : resOf (F__law_points [.val (.lst (nD [1, 2, 1, 1]))]) = some (.own (.lst ((stQ 0 [1, 2, 1, 1]).map (v3 false)))) := by kernel_rfl
theorem lt_11 : resOf (F__law_top [.val (.lst (nD [1, 2, 1, 1]))]) = some (.val (.int (topN [1, 2, 1, 1] 0 : Nat))) := by kernel_rfl
theorem pf_11 : (okA [1, 2, 1, 1] (stQ 0 [1, 2, 1, 1]) && (okH [1, 2, 1, 1] (stQ 0 [1, 2, 1, 1]) && okL [1, 2, 1, 1])) = true := by decide +kernel
theorem is_12 : resOf (F_is_row [.val (.lst (nD [1, 2, 1, 1, 1]))]) = some (.val (.bl true)) := by kernel_rfl
theorem sa_12 : resOf (F_stair [.val (.lst (nD [1, 2, 1, 1, 1]))]) = some (.own (.ins "Spots" (spF (stQ 0 [1, 2, 1, 1, 1])))) := by kernel_rfl
theorem sb_12 : resOf (F_stair [.val (.tup (nD [1, 2, 1, 1, 1]))]) = some (.own (.ins "Spots" (spF (stQ 0 [1, 2, 1, 1, 1])))) := by kernel_rfl
theorem lp_12 : resOf (F__law_points [.val (.lst (nD [1, 2, 1, 1, 1]))]) = some (.own (.lst ((stQ 0 [1, 2, 1, 1, 1]).map (v3 false)))) := by kernel_rfl
theorem lt_12 : resOf (F__law_top [.val (.lst (nD [1, 2, 1, 1, 1]))]) = some (.val (.int (topN [1, 2, 1, 1, 1] 0 : Nat))) := by kernel_rfl
theorem pf_12 : (okA [1, 2, 1, 1, 1] (stQ 0 [1, 2, 1, 1, 1]) && (okH [1, 2, 1, 1, 1] (stQ 0 [1, 2, 1, 1, 1]) && okL [1, 2, 1, 1, 1])) = true := by decide +kernel
theorem is_13 : resOf (F_is_row [.val (.lst (nD [1, 2, 1, 1, 1, 1]))]) = some (.val (.bl true)) := by kernel_rfl
theorem sa_13 : resOf (F_stair [.val (.lst (nD [1, 2, 1, 1, 1, 1]))]) = some (.own (.ins "Spots" (spF (stQ 0 [1, 2, 1, 1, 1, 1])))) := by kernel_rfl
theorem sb_13 : resOf (F_stair [.val (.tup (nD [1, 2, 1, 1, 1, 1]))]) = some (.own (.ins "Spots" (spF (stQ 0 [1, 2, 1, 1, 1, 1])))) := by kernel_rfl
theorem lp_13 : resOf (F__law_points [.val (.lst (nD [1, 2, 1, 1, 1, 1]))]) = some (.own (.lst ((stQ 0 [1, 2, 1, 1, 1, 1]).map (v3 false)))) := by kernel_rfl
theorem lt_13 : resOf (F__law_top [.val (.lst (nD [1, 2, 1, 1, 1, 1]))]) = some (.val (.int (topN [1, 2, 1, 1, 1, 1] 0 : Nat))) := by kernel_rfl
theorem pf_13 : (okA [1, 2, 1, 1, 1, 1] (stQ 0 [1, 2, 1, 1, 1, 1]) && (okH [1, 2, 1, 1, 1, 1] (stQ 0 [1, 2, 1, 1, 1, 1]) && okL [1, 2, 1, 1, 1, 1])) = true := by decide +kernel
theorem is_14 : resOf (F_is_row [.val (.lst (nD [1, 2, 1, 1, 1, 1, 1]))]) = some (.val (.bl true)) := by kernel_rfl
theorem sa_14 : resOf (F_stair [.val (.lst (nD [1, 2, 1, 1, 1, 1, 1]))]) = some (.own (.ins "Spots" (spF (stQ 0 [1, 2, 1, 1, 1, 1, 1])))) := by kernel_rfl
theorem sb_14 : resOf (F_stair [.val (.tup (nD [1, 2, 1, 1, 1, 1, 1]))]) = some (.own (.ins "Spots" (spF (stQ 0 [1, 2, 1, 1, 1, 1, 1])))) := by kernel_rfl
theorem lp_14 : resOf (F__law_points [.val (.lst (nD [1, 2, 1, 1, 1, 1, 1]))]) = some (.own (.lst ((stQ 0 [1, 2, 1, 1, 1, 1, 1]).map (v3 false)))) := by kernel_rfl
theorem lt_14 : resOf (F__law_top [.val (.lst (nD [1, 2, 1, 1, 1, 1, 1]))]) = some (.val (.int (topN [1, 2, 1, 1, 1, 1, 1] 0 : Nat))) := by kernel_rfl
theorem pf_14 : (okA [1, 2, 1, 1, 1, 1, 1] (stQ 0 [1, 2, 1, 1, 1, 1, 1]) && (okH [1, 2, 1, 1, 1, 1, 1] (stQ 0 [1, 2, 1, 1, 1, 1, 1]) && okL [1, 2, 1, 1, 1, 1, 1])) = true := by decide +kernel
theorem is_15 : resOf (F_is_row [.val (.lst (nD [1, 2, 1, 1, 1, 1, 1, 1]))]) = some (.val (.bl true)) := by kernel_rfl
theorem sa_15 : resOf (F_stair [.val (.lst (nD [1, 2, 1, 1, 1, 1, 1, 1]))]) = some (.own (.ins "Spots" (spF (stQ 0 [1, 2, 1, 1, 1, 1, 1, 1])))) := by kernel_rfl
theorem sb_15 : resOf (F_stair [.val (.tup (nD [1, 2, 1, 1, 1, 1, 1, 1]))]) = some (.own (.ins "Spots" (spF (stQ 0 [1, 2, 1, 1, 1, 1, 1, 1])))) := by kernel_rfl
theorem lp_15 : resOf (F__law_points [.val (.lst (nD [1, 2, 1, 1, 1, 1, 1, 1]))]) = some (.own (.lst ((stQ 0 [1, 2, 1, 1, 1, 1, 1, 1]).map (v3 false)))) := by kernel_rfl
theorem lt_15 : resOf (F__law_top [.val (.lst (nD [1, 2, 1, 1, 1, 1, 1, 1]))]) = some (.val (.int (topN [1, 2, 1, 1, 1, 1, 1, 1] 0 : Nat))) := by kernel_rfl
theorem pf_15 : (okA [1, 2, 1, 1, 1, 1, 1, 1] (stQ 0 [1, 2, 1, 1, 1, 1, 1, 1]) && (okH [1, 2, 1, 1, 1, 1, 1, 1] (stQ 0 [1, 2, 1, 1, 1, 1, 1, 1]) && okL [1, 2, 1, 1, 1, 1, 1, 1])) = true := by decide +kernel
theorem is_16 : resOf (F_is_row [.val (.lst (nD [1, 2, 1, 1, 1, 1, 1, 1, 1]))]) = some (.val (.bl true)) := by kernel_rfl
theorem sa_16 : resOf (F_stair [.val (.lst (nD [1, 2, 1, 1, 1, 1, 1, 1, 1]))]) = some (.own (.ins "Spots" (spF (stQ 0 [1, 2, 1, 1, 1, 1, 1, 1, 1])))) := by kernel_rfl
theorem sb_16 : resOf (F_stair [.val (.tup (nD [1, 2, 1, 1, 1, 1, 1, 1, 1]))]) = some (.own (.ins "Spots" (spF (stQ 0 [1, 2, 1, 1, 1, 1, 1, 1, 1])))) := by kernel_rfl
theorem lp_16 : resOf (F__law_points [.val (.lst (nD [1, 2, 1, 1, 1, 1, 1, 1, 1]))]) = some (.own (.lst ((stQ 0 [1, 2, 1, 1, 1, 1, 1, 1, 1]).map (v3 false)))) := by kernel_rfl
theorem lt_16 : resOf (F__law_top [.val (.lst (nD [1, 2, 1, 1, 1, 1, 1, 1, 1]))]) = some (.val (.int (topN [1, 2, 1, 1, 1, 1, 1, 1, 1] 0 : Nat))) := by kernel_rfl
theorem pf_16 : (okA [1, 2, 1, 1, 1, 1, 1, 1, 1] (stQ 0 [1, 2, 1, 1, 1, 1, 1, 1, 1]) && (okH [1, 2, 1, 1, 1, 1, 1, 1, 1] (stQ 0 [1, 2, 1, 1, 1, 1, 1, 1, 1]) && okL [1, 2, 1, 1, 1, 1, 1, 1, 1])) = true := by decide +kernel
theorem is_17 : resOf (F_is_row [.val (.lst (nD [1, 2, 2]))]) = some (.val (.bl true)) := by kernel_rfl
theorem sa_17 : resOf (F_stair [.val (.lst (nD [1, 2, 2]))]) = some (.own (.ins "Spots" (spF (stQ 0 [1, 2, 2])))) := by kernel_rfl
theorem sb_17 : resOf (F_stair [.val (.tup (nD [1, 2, 2]))]) = some (.own (.ins "Spots" (spF (stQ 0 [1, 2, 2])))) := by kernel_rfl
theorem lp_17 : resOf (F__law_points [.val (.lst (nD [1, 2, 2]))]) = some (.own (.lst ((stQ 0 [1, 2, 2]).map (v3 false)))) := by kernel_rfl
theorem lt_17 : resOf (F__law_top [.val (.lst (nD [1, 2, 2]))]) = some (.val (.int (topN [1, 2, 2] 0 : Nat))) := by kernel_rfl
theorem pf_17 : (okA [1, 2, 2] (stQ 0 [1, 2, 2]) && (okH [1, 2, 2] (stQ 0 [1, 2, 2]) && okL [1, 2, 2])) = true := by decide +kernel
theorem is_18 : resOf (F_is_row [.val (.lst (nD [1, 2, 2, 1]))]) = some (.val (.bl true)) := by kernel_rfl
theorem sa_18 : resOf (F_stair [.val (.lst (nD [1, 2, 2, 1]))]) = some (.own (.ins "Spots" (spF (stQ 0 [1, 2, 2, 1])))) := by kernel_rfl
theorem sb_18 : resOf (F_stair [.val (.tup (nD [1, 2, 2, 1]))]) = some (.own (.ins "Spots" (spF (stQ 0 [1, 2, 2, 1])))) := by kernel_rfl
theorem lp_18 : resOf (F__law_points [.val (.lst (nD [1, 2, 2, 1]))]) = some (.own (.lst ((stQ 0 [1, 2, 2, 1]).map (v3 false)))) := by kernel_rfl
theorem lt_18 : resOf (F__law_top [.val (.lst (nD [1, 2, 2, 1]))]) = some (.val (.int (topN [1, 2, 2, 1] 0 : Nat))) := by kernel_rfl
theorem pf_18 : (okA [1, 2, 2, 1] (stQ 0 [1, 2, 2, 1]) && (okH [1, 2, 2, 1] (stQ 0 [1, 2, 2, 1]) && okL [1, 2, 2, 1])) = true := by decide +kernel
theorem is_19 : resOf (F_is_row [.val (.lst (nD [1, 2, 2, 1, 1]))]) = some (.val (.bl true)) := by kernel_rfl
theorem sa_19 : resOf (F_stair [.val (.lst (nD [1, 2, 2, 1, 1]))]) = some (.own (.ins "Spots" (spF (stQ 0 [1, 2, 2, 1, 1])))) := by kernel_rfl
theorem sb_19 : resOf (F_stair [.val (.tup (nD [1, 2, 2, 1, 1]))]) = some (.own (.ins "Spots" (spF (stQ 0 [1, 2, 2, 1, 1])))) := by kernel_rfl
theorem lp_19 : resOf (F__law_points [.val (.lst (nD [1, 2, 2, 1, 1]))]) = some (.own (.lst ((stQ 0 [1, 2, 2, 1, 1]).map (v3 false)))) := by kernel_rfl
theorem lt_19 : resOf (F__law_top [.val (.lst (nD [1, 2, 2, 1, 1]))]) = some (.val (.int (topN [1, 2, 2, 1, 1] 0 : Nat))) := by kernel_rfl
theorem pf_19 : (okA [1, 2, 2, 1, 1] (stQ 0 [1, 2, 2, 1, 1]) && (okH [1, 2, 2, 1, 1] (stQ 0 [1, 2, 2, 1, 1]) && okL [1, 2, 2, 1, 1])) = true := by decide +kernel
theorem is_20 : resOf (F_is_row [.val (.lst (nD [1, 2, 2, 1, 1, 1]))]) = some (.val (.bl true)) := by kernel_rfl
theorem sa_20 : resOf (F_stair [.val (.lst (nD [1, 2, 2, 1, 1, 1]))]) = some (.own (.ins "Spots" (spF (stQ 0 [1, 2, 2, 1, 1, 1])))) := by kernel_rfl
theorem sb_20 : resOf (F_stair [.val (.tup (nD [1, 2, 2, 1, 1, 1]))]) = some (.own (.ins "Spots" (spF (stQ 0 [1, 2, 2, 1, 1, 1])))) := by kernel_rfl
theorem lp_20 : resOf (F__law_points [.val (.lst (nD [1, 2, 2, 1, 1, 1]))]) = some (.own (.lst ((stQ 0 [1, 2, 2, 1, 1, 1]).map (v3 false)))) := by kernel_rfl
theorem lt_20 : resOf (F__law_top [.val (.lst (nD [1, 2, 2, 1, 1, 1]))]) = some (.val (.int (topN [1, 2, 2, 1, 1, 1] 0 : Nat))) := by kernel_rfl
theorem pf_20 : (okA [1, 2, 2, 1, 1, 1] (stQ 0 [1, 2, 2, 1, 1, 1]) && (okH [1, 2, 2, 1, 1, 1] (stQ 0 [1, 2, 2, 1, 1, 1]) && okL [1, 2, 2, 1, 1, 1])) = true := by decide +kernel
theorem is_21 : resOf (F_is_row [.val (.lst (nD [1, 2, 2, 1, 1, 1, 1]))]) = some (.val (.bl true)) := by kernel_rfl
theorem sa_21 : resOf (F_stair [.val (.lst (nD [1, 2, 2, 1, 1, 1, 1]))]) = some (.own (.ins "Spots" (spF (stQ 0 [1, 2, 2, 1, 1, 1, 1])))) := by kernel_rfl
theorem sb_21 : resOf (F_stair [.val (.tup (nD [1, 2, 2, 1, 1, 1, 1]))]) = some (.own (.ins "Spots" (spF (stQ 0 [1, 2, 2, 1, 1, 1, 1])))) := by kernel_rfl
theorem lp_21 : resOf (F__law_points [.val (.lst (nD [1, 2, 2, 1, 1, 1, 1]))]) = some (.own (.lst ((stQ 0 [1, 2, 2, 1, 1, 1, 1]).map (v3 false)))) := by kernel_rfl
theorem lt_21 : resOf (F__law_top [.val (.lst (nD [1, 2, 2, 1, 1, 1, 1]))]) = some (.val (.int (topN [1, 2, 2, 1, 1, 1, 1] 0 : Nat))) := by kernel_rfl
theorem pf_21 : (okA [1, 2, 2, 1, 1, 1, 1] (stQ 0 [1, 2, 2, 1, 1, 1, 1]) && (okH [1, 2, 2, 1, 1, 1, 1] (stQ 0 [1, 2, 2, 1, 1, 1, 1]) && okL [1, 2, 2, 1, 1, 1, 1])) = true := by decide +kernel
end
end VE

set_option exponentiation.threshold 10000
namespace VE
open PySem PySem.Spec PyProof.Rows L2 G0 RK
noncomputable section
theorem is_22 : resOf (F_is_row [.val (.lst (nD [1, 2, 2, 1, 1, 1, 1, 1]))]) = some (.val (.bl true)) := by kernel_rfl
theorem sa_22 : resOf (F_stair [.val (.lst (nD [1, 2, 2, 1, 1, 1, 1, 1]))]) = some (.own (.ins "Spots" (spF (stQ 0 [1, 2, 2, 1, 1, 1, 1, 1])))) := by kernel_rfl
theorem sb_22 : resOf (F_stair [.val (.tup (nD [1, 2, 2, 1, 1, 1, 1, 1]))]) = some (.own (.ins "Spots" (spF (stQ 0 [1, 2, 2, 1, 1, 1, 1, 1])))) := by kernel_rfl
theorem lp_22 : resOf (F__law_points [.val (.lst (nD [1, 2, 2, 1, 1, 1, 1, 1]))]) = some (.own (.lst ((stQ 0 [1, 2, 2, 1, 1, 1, 1, 1]).map (v3 false)))) := by kernel_rfl
theorem lt_22 : resOf (F__law_top [.val (.lst (nD [1, 2, 2, 1, 1, 1, 1, 1]))]) = some (.val (.int (topN [1, 2, 2, 1, 1, 1, 1, 1] 0 : Nat))) := by kernel_rfl
theorem pf_22 : (okA [1, 2, 2, 1, 1, 1, 1, 1] (stQ 0 [1, 2, 2, 1, 1, 1, 1, 1]) && (okH [1, 2, 2, 1, 1, 1, 1, 1] (stQ 0 [1, 2, 2, 1, 1, 1, 1, 1]) && okL [1, 2, 2, 1, 1, 1, 1, 1])) = true := by decide +kernel
theorem is_23 : resOf (F_is_row [.val (.lst (nD [1, 2, 2, 1, 1, 1, 1, 1, 1]))]) = some (.val (.bl true)) := by kernel_rfl
theorem sa_23 : resOf (F_stair [.val (.lst (nD [1, 2, 2, 1, 1, 1, 1, 1, 1]))]) = some (.own (.ins "Spots" (spF (stQ 0 [1, 2, 2, 1, 1, 1, 1, 1, 1])))) := by kernel_rfl
theorem sb_23 : resOf (F_stair [.val (.tup (nD [1, 2, 2, 1, 1, 1, 1, 1, 1]))]) = some (.own (.ins "Spots" (spF (stQ 0 [1, 2, 2, 1, 1, 1, 1, 1, 1])))) := by kernel_rfl
theorem lp_23 : resOf (F__law_points [.val (.lst (nD [1, 2, 2, 1, 1, 1, 1, 1, 1]))]) = some (.own (.lst ((stQ 0 [1, 2, 2, 1, 1, 1, 1, 1, 1]).map (v3 false)))) := by kernel_rfl
theorem lt_23 : resOf (F__law_top [.val (.lst (nD [1, 2, 2, 1, 1, 1, 1, 1, 1]))]) = some (.val (.int (topN [1, 2, 2, 1, 1, 1, 1, 1, 1] 0 : Nat))) := by kernel_rfl
theorem pf_23 : (okA [1, 2, 2, 1, 1, 1, 1, 1, 1] (stQ 0 [1, 2, 2, 1, 1, 1, 1, 1, 1]) && (okH [1, 2, 2, 1, 1, 1, 1, 1, 1] (stQ 0 [1, 2, 2, 1, 1, 1, 1, 1, 1]) && okL [1, 2, 2, 1, 1, 1, 1, 1, 1])) = true := by decide +kernel
theorem is_24 : resOf (F_is_row [.val (.lst (nD [1, 2, 2, 2]))]) = some (.val (.bl true)) := by kernel_rfl
theorem sa_24 : resOf (F_stair [.val (.lst (nD [1, 2, 2, 2]))]) = some (.own (.ins "Spots" (spF (stQ 0 [1, 2, 2, 2])))) := by kernel_rfl
theorem sb_24 : resOf (F_stair [.val (.tup (nD [1, 2, 2, 2]))]) = some (.own (.ins "Spots" (spF (stQ 0 [1, 2, 2, 2])))) := by kernel_rfl
theorem lp_24 : resOf (F__law_points [.val (.lst (nD [1, 2, 2, 2]))]) = some (.own (.lst ((stQ 0 [1, 2, 2, 2]).map (v3 false)))) := by kernel_rfl
theorem lt_24 : resOf (F__law_top [.val (.lst (nD [1, 2, 2, 2]))]) = some (.val (.int (topN [1, 2, 2, 2] 0 : Nat))) := by kernel_rfl
theorem pf_24 : (okA [1, 2, 2, 2] (stQ 0 [1, 2, 2, 2]) && (okH [1, 2, 2, 2] (stQ 0 [1, 2, 2, 2]) && okL [1, 2, 2, 2])) = true := by decide +kernel
theorem is_25 : resOf (F_is_row [.val (.lst (nD [1, 2, 2, 2, 1]))]) = some (.val (.bl true)) := by kernel_rfl
theorem sa_25 : resOf (F_stair [.val (.lst (nD [1, 2, 2, 2, 1]))]) = some (.own (.ins "Spots" (spF (stQ 0 [1, 2, 2, 2, 1])))) := by kernel_rfl
theorem sb_25 : resOf (F_stair [.val (.tup (nD [1, 2, 2, 2, 1]))]) = some (.own (.ins "Spots" (spF (stQ 0 [1, 2, 2, 2, 1])))) := by kernel_rfl
theorem lp_25 : resOf (F__law_points [.val (.lst (nD [1, 2, 2, 2, 1]))]) = some (.own (.lst ((stQ 0 [1, 2, 2, 2, 1]).map (v3 false)))) := by kernel_rfl
theorem lt_25 : resOf (F__law_top [.val (.lst (nD [1, 2, 2, 2, 1]))]) = some (.val (.int (topN [1, 2, 2, 2, 1] 0 : Nat))) := by kernel_rfl
theorem pf_25 : (okA [1, 2, 2, 2, 1] (stQ 0 [1, 2, 2, 2, 1]) && (okH [1, 2, 2, 2, 1] (stQ 0 [1, 2, 2, 2, 1]) && okL [1, 2, 2, 2, 1])) = true := by decide +kernel
theorem is_26 : resOf (F_is_row [.val (.lst (nD [1, 2, 2, 2, 1, 1]))]) = some (.val (.bl true)) := by kernel_rfl
theorem sa_26 : resOf (F_stair [.val (.lst (nD [1, 2, 2, 2, 1, 1]))]) = some (.own (.ins "Spots" (spF (stQ 0 [1, 2, 2, 2, 1, 1])))) := by kernel_rfl
theorem sb_26 : resOf (F_stair [.val (.tup (nD [1, 2, 2, 2, 1, 1]))]) = some (.own (.ins "Spots" (spF (stQ 0 [1, 2, 2, 2, 1, 1])))) := by kernel_rfl
theorem lp_26 : resOf (F__law_points [.val (.lst (nD [1, 2, 2, 2, 1, 1]))]) = some (.own (.lst ((stQ 0 [1, 2, 2, 2, 1, 1]).map (v3 false)))) := by kernel_rfl
theorem lt_26 : resOf (F__law_top [.val (.lst (nD [1, 2, 2, 2, 1, 1]))]) = some (.val (.int (topN [1, 2, 2, 2, 1, 1] 0 : Nat))) := by kernel_rfl
theorem pf_26 : (okA [1, 2, 2, 2, 1, 1] (stQ 0 [1, 2, 2, 2, 1, 1]) && (okH [1, 2, 2, 2, 1, 1] (stQ 0 [1, 2, 2, 2, 1, 1]) && okL [1, 2, 2, 2, 1, 1])) = true := by decide +kernel
theorem is_27 : resOf (F_is_row [.val (.lst (nD [1, 2, 2, 2, 1, 1, 1]))]) = some (.val (.bl true)) := by kernel_rfl
theorem sa_27 : resOf (F_stair [.val (.lst (nD [1, 2, 2, 2, 1, 1, 1]))]) = some (.own (.ins "Spots" (spF (stQ 0 [1, 2, 2, 2, 1, 1, 1])))) := by kernel_rfl
theorem sb_27 : resOf (F_stair [.val (.tup (nD [1, 2, 2, 2, 1, 1, 1]))]) = some (.own (.ins "Spots" (spF (stQ 0 [1, 2, 2, 2, 1, 1, 1])))) := by kernel_rfl
theorem lp_27 : resOf (F__law_points [.val (.lst (nD [1, 2, 2, 2, 1, 1, 1]))]) = some (.own (.lst ((stQ 0 [1, 2, 2, 2, 1, 1, 1]).map (v3 false)))) := by kernel_rfl
theorem lt_27 : resOf (F__law_top [.val (.lst (nD [1, 2, 2, 2, 1, 1, 1]))]) = some (.val (.int (topN [1, 2, 2, 2, 1, 1, 1] 0 : Nat))) := by kernel_rfl
theorem pf_27 : (okA [1, 2, 2, 2, 1, 1, 1] (stQ 0 [1, 2, 2, 2, 1, 1, 1]) && (okH [1, 2, 2, 2, 1, 1, 1] (stQ 0 [1, 2, 2, 2, 1, 1, 1]) && okL [1, 2, 2, 2, 1, 1, 1])) = true := by decide +kernel
theorem is_28 : resOf (F_is_row [.val (.lst (nD [1, 2, 2, 2, 1, 1, 1, 1]))]) = some (.val (.bl true)) := by kernel_rfl
theorem sa_28 : resOf (F_stair [.val (.lst (nD [1, 2, 2, 2, 1, 1, 1, 1]))]) = some (.own (.ins "Spots" (spF (stQ 0 [1, 2, 2, 2, 1, 1, 1, 1])))) := by kernel_rfl
theorem sb_28 : resOf (F_stair [.val (.tup (nD [1, 2, 2, 2, 1, 1, 1, 1]))]) = some (.own (.ins "Spots" (spF (stQ 0 [1, 2, 2, 2, 1, 1, 1, 1])))) := by kernel_rfl
theorem lp_28 : resOf (F__law_points [.val (.lst (nD [1, 2, 2, 2, 1, 1, 1, 1]))]) = some (.own (.lst ((stQ 0 [1, 2, 2, 2, 1, 1, 1, 1]).map (v3 false)))) := by kernel_rfl
theorem lt_28 : resOf (F__law_top [.val (.lst (nD [1, 2, 2, 2, 1, 1, 1, 1]))]) = some (.val (.int (topN [1, 2, 2, 2, 1, 1, 1, 1] 0 : Nat))) := by kernel_rfl
theorem pf_28 : (okA [1, 2, 2, 2, 1, 1, 1, 1] (stQ 0 [1, 2, 2, 2, 1, 1, 1, 1]) && (okH [1, 2, 2, 2, 1, 1, 1, 1] (stQ 0 [1, 2, 2, 2, 1, 1, 1, 1]) && okL [1, 2, 2, 2, 1, 1, 1, 1])) = true := by decide +kernel
theorem is_29 : resOf (F_is_row [.val (.lst (nD [1, 2, 2, 2, 1, 1, 1, 1, 1]))]) = some (.val (.bl true)) := by kernel_rfl
theorem sa_29 : resOf (F_stair [.val (.lst (nD [1, 2, 2, 2, 1, 1, 1, 1, 1]))]) = some (.own (.ins "Spots" (spF (stQ 0 [1, 2, 2, 2, 1, 1, 1, 1, 1])))) := by kernel_rfl
theorem sb_29 : resOf (F_stair [.val (.tup (nD [1, 2, 2, 2, 1, 1, 1, 1, 1]))]) = some (.own (.ins "Spots" (spF (stQ 0 [1, 2, 2, 2, 1, 1, 1, 1, 1])))) := by kernel_rfl
theorem lp_29 : resOf (F__law_points [.val (.lst (nD [1, 2, 2, 2, 1, 1, 1, 1, 1]))]) = some (.own (.lst ((stQ 0 [1, 2, 2, 2, 1, 1, 1, 1, 1]).map (v3 false)))) := by kernel_rfl
theorem lt_29 : resOf (F__law_top [.val (.lst (nD [1, 2, 2, 2, 1, 1, 1, 1, 1]))]) = some (.val (.int (topN [1, 2, 2, 2, 1, 1, 1, 1, 1] 0 : Nat))) := by kernel_rfl
theorem pf_29 : (okA [1, 2, 2, 2, 1, 1, 1, 1, 1] (stQ 0 [1, 2, 2, 2, 1, 1, 1, 1, 1]) && (okH [1, 2, 2, 2, 1, 1, 1, 1, 1] (stQ 0 [1, 2, 2, 2, 1, 1, 1, 1, 1]) && okL [1, 2, 2, 2, 1, 1, 1, 1, 1])) = true := by decide +kernel
theorem is_30 : resOf (F_is_row [.val (.lst (nD [1, 2, 2, 2, 2]))]) = some (.val (.bl true)) := by kernel_rfl
theorem sa_30 : resOf (F_stair [.val (.lst (nD [1, 2, 2, 2, 2]))]) = some (.own (.ins "Spots" (spF (stQ 0 [1, 2, 2, 2, 2])))) := by kernel_rfl
theorem sb_30 : resOf (F_stair [.val (.tup (nD [1, 2, 2, 2, 2]))]) = some (.own (.ins "Spots" (spF (stQ 0 [1, 2, 2, 2, 2])))) := by kernel_rfl
theorem lp_30 : resOf (F__law_points [.val (.lst (nD [1, 2, 2, 2, 2]))]) = some (.own (.lst ((stQ 0 [1, 2, 2, 2, 2]).map (v3 false)))) := by kernel_rfl
theorem lt_30 : resOf (F__law_top [.val (.lst (nD [1, 2, 2, 2, 2]))]) = some (.val (.int (topN [1, 2, 2, 2, 2] 0 : Nat))) := by kernel_rfl
theorem pf_30 : (okA [1, 2, 2, 2, 2] (stQ 0 [1, 2, 2, 2, 2]) && (okH [1, 2, 2, 2, 2] (stQ 0 [1, 2, 2, 2, 2]) && okL [1, 2, 2, 2, 2])) = true := by decide +kernel
theorem is_31 : resOf (F_is_row [.val (.lst (nD [1, 2, 2, 2, 2, 1]))]) = some (.val (.bl true)) := by kernel_rfl
theorem sa_31 : resOf (F_stair [.val (.lst (nD [1, 2, 2, 2, 2, 1]))]) = some (.own (.ins "Spots" (spF (stQ 0 [1, 2, 2, 2, 2, 1])))) := by kernel_rfl
theorem sb_31 : resOf (F_stair [.val (.tup (nD [1, 2, 2, 2, 2, 1]))]) = some (.own (.ins "Spots" (spF (stQ 0 [1, 2, 2, 2, 2, 1])))) := by kernel_rfl
theorem lp_31 : resOf (F__law_points [.val (.lst (nD [1, 2, 2, 2, 2, 1]))]) = some (.own (.lst ((stQ 0 [1, 2, 2, 2, 2, 1]).map (v3 false)))) := by kernel_rfl
theorem lt_31 : resOf (F__law_top [.val (.lst (nD [1, 2, 2, 2, 2, 1]))]) = some (.val (.int (topN [1, 2, 2, 2, 2, 1] 0 : Nat))) := by kernel_rfl
theorem pf_31 : (okA [1, 2, 2, 2, 2, 1] (stQ 0 [1, 2, 2, 2, 2, 1]) && (okH [1, 2, 2, 2, 2, 1] (stQ 0 [1, 2, 2, 2, 2, 1]) && okL [1, 2, 2, 2, 2, 1])) = true := by decide +kernel
theorem is_32 : resOf (F_is_row [.val (.lst (nD [1, 2, 2, 2, 2, 1, 1]))]) = some (.val (.bl true)) := by kernel_rfl
theorem sa_32 : resOf (F_stair [.val (.lst (nD [1, 2, 2, 2, 2, 1, 1]))]) = some (.own (.ins "Spots" (spF (stQ 0 [1, 2, 2, 2, 2, 1, 1])))) := by kernel_rfl
theorem sb_32 : resOf (F_stair [.val (.tup (nD [1, 2, 2, 2, 2, 1, 1]))]) = some (.own (.ins "Spots" (spF (stQ 0 [1, 2, 2, 2, 2, 1, 1])))) := by kernel_rfl
theorem lp_32 : resOf (F__law_points [.val (.lst (nD [1, 2, 2, 2, 2, 1, 1]))]) = some (.own (.lst ((stQ 0 [1, 2, 2, 2, 2, 1, 1]).map (v3 false)))) := by kernel_rfl
theorem lt_32 : resOf (F__law_top [.val (.lst (nD [1, 2, 2, 2, 2, 1, 1]))]) = some (.val (.int (topN [1, 2, 2, 2, 2, 1, 1] 0 : Nat))) := by kernel_rfl
theorem pf_32 : (okA [1, 2, 2, 2, 2, 1, 1] (stQ 0 [1, 2, 2, 2, 2, 1, 1]) && (okH [1, 2, 2, 2, 2, 1, 1] (stQ 0 [1, 2, 2, 2, 2, 1, 1]) && okL [1, 2, 2, 2, 2, 1, 1])) = true := by decide +kernel
end
end VE

set_option exponentiation.threshold 10000
namespace VE
open PySem PySem.Spec PyProof.Rows L2 G0 RK
noncomputable section
theorem is_33 : resOf (F_is_row [.val (.lst (nD [1, 2, 2, 2, 2, 1, 1, 1]))]) = some (.val (.bl true)) := by kernel_rfl
theorem sa_33 : resOf (F_stair [.val (.lst (nD [1, 2, 2, 2, 2, 1, 1, 1]))]) = some (.own (.ins "Spots" (spF (stQ 0 [1, 2, 2, 2, 2, 1, 1, 1])))) := by kernel_rfl
theorem sb_33 : resOf (F_stair [.val (.tup (nD [1, 2, 2, 2, 2, 1, 1, 1]))]) = some (.own (.ins "Spots" (spF (stQ 0 [1, 2, 2, 2, 2, 1, 1, 1])))) := by kernel_rfl
theorem lp_33 : resOf (F__law_points [.val (.lst (nD [1, 2, 2, 2, 2, 1, 1, 1]))]) = some (.own (.lst ((stQ 0 [1, 2, 2, 2, 2, 1, 1, 1]).map (v3 false)))) := by kernel_rfl
theorem lt_33 : resOf (F__law_top [.val (.lst (nD [1, 2, 2, 2, 2, 1, 1, 1]))]) = some (.val (.int (topN [1, 2, 2, 2, 2, 1, 1, 1] 0 : Nat))) := by kernel_rfl
theorem pf_33 : (okA [1, 2, 2, 2, 2, 1, 1, 1] (stQ 0 [1, 2, 2, 2, 2, 1, 1, 1]) && (okH [1, 2, 2, 2, 2, 1, 1, 1] (stQ 0 [1, 2, 2, 2, 2, 1, 1, 1]) && okL [1, 2, 2, 2, 2, 1, 1, 1])) = true := by decide +kernel
theorem is_34 : resOf (F_is_row [.val (.lst (nD [1, 2, 2, 2, 2, 2]))]) = some (.val (.bl true)) := by kernel_rfl
theorem sa_34 : resOf (F_stair [.val (.lst (nD [1, 2, 2, 2, 2, 2]))]) = some (.own (.ins "Spots" (spF (stQ 0 [1, 2, 2, 2, 2, 2])))) := by kernel_rfl
theorem sb_34 : resOf (F_stair [.val (.tup (nD [1, 2, 2, 2, 2, 2]))]) = some (.own (.ins "Spots" (spF (stQ 0 [1, 2, 2, 2, 2, 2])))) := by kernel_rfl
theorem lp_34 : resOf (F__law_points [.val (.lst (nD [1, 2, 2, 2, 2, 2]))]) = some (.own (.lst ((stQ 0 [1, 2, 2, 2, 2, 2]).map (v3 false)))) := by kernel_rfl
theorem lt_34 : resOf (F__law_top [.val (.lst (nD [1, 2, 2, 2, 2, 2]))]) = some (.val (.int (topN [1, 2, 2, 2, 2, 2] 0 : Nat))) := by kernel_rfl
theorem pf_34 : (okA [1, 2, 2, 2, 2, 2] (stQ 0 [1, 2, 2, 2, 2, 2]) && (okH [1, 2, 2, 2, 2, 2] (stQ 0 [1, 2, 2, 2, 2, 2]) && okL [1, 2, 2, 2, 2, 2])) = true := by decide +kernel
theorem is_35 : resOf (F_is_row [.val (.lst (nD [1, 2, 2, 2, 2, 2, 1]))]) = some (.val (.bl true)) := by kernel_rfl
theorem sa_35 : resOf (F_stair [.val (.lst (nD [1, 2, 2, 2, 2, 2, 1]))]) = some (.own (.ins "Spots" (spF (stQ 0 [1, 2, 2, 2, 2, 2, 1])))) := by kernel_rfl
theorem sb_35 : resOf (F_stair [.val (.tup (nD [1, 2, 2, 2, 2, 2, 1]))]) = some (.own (.ins "Spots" (spF (stQ 0 [1, 2, 2, 2, 2, 2, 1])))) := by kernel_rfl
theorem lp_35 : resOf (F__law_points [.val (.lst (nD [1, 2, 2, 2, 2, 2, 1]))]) = some (.own (.lst ((stQ 0 [1, 2, 2, 2, 2, 2, 1]).map (v3 false)))) := by kernel_rfl
theorem lt_35 : resOf (F__law_top [.val (.lst (nD [1, 2, 2, 2, 2, 2, 1]))]) = some (.val (.int (topN [1, 2, 2, 2, 2, 2, 1] 0 : Nat))) := by kernel_rfl
theorem pf_35 : (okA [1, 2, 2, 2, 2, 2, 1] (stQ 0 [1, 2, 2, 2, 2, 2, 1]) && (okH [1, 2, 2, 2, 2, 2, 1] (stQ 0 [1, 2, 2, 2, 2, 2, 1]) && okL [1, 2, 2, 2, 2, 2, 1])) = true := by decide +kernel
theorem is_36 : resOf (F_is_row [.val (.lst (nD [1, 2, 3]))]) = some (.val (.bl true)) := by kernel_rfl
theorem sa_36 : resOf (F_stair [.val (.lst (nD [1, 2, 3]))]) = some (.own (.ins "Spots" (spF (stQ 0 [1, 2, 3])))) := by kernel_rfl
theorem sb_36 : resOf (F_stair [.val (.tup (nD [1, 2, 3]))]) = some (.own (.ins "Spots" (spF (stQ 0 [1, 2, 3])))) := by kernel_rfl
theorem lp_36 : resOf (F__law_points [.val (.lst (nD [1, 2, 3]))]) = some (.own (.lst ((stQ 0 [1, 2, 3]).map (v3 false)))) := by kernel_rfl
theorem lt_36 : resOf (F__law_top [.val (.lst (nD [1, 2, 3]))]) = some (.val (.int (topN [1, 2, 3] 0 : Nat))) := by kernel_rfl
theorem pf_36 : (okA [1, 2, 3] (stQ 0 [1, 2, 3]) && (okH [1, 2, 3] (stQ 0 [1, 2, 3]) && okL [1, 2, 3])) = true := by decide +kernel
theorem is_37 : resOf (F_is_row [.val (.lst (nD [1, 2, 3, 1]))]) = some (.val (.bl true)) := by kernel_rfl
theorem sa_37 : resOf (F_stair [.val (.lst (nD [1, 2, 3, 1]))]) = some (.own (.ins "Spots" (spF (stQ 0 [1, 2, 3, 1])))) := by kernel_rfl
theorem sb_37 : resOf (F_stair [.val (.tup (nD [1, 2, 3, 1]))]) = some (.own (.ins "Spots" (spF (stQ 0 [1, 2, 3, 1])))) := by kernel_rfl
theorem lp_37 : resOf (F__law_points [.val (.lst (nD [1, 2, 3, 1]))]) = some (.own (.lst ((stQ 0 [1, 2, 3, 1]).map (v3 false)))) := by kernel_rfl
theorem lt_37 : resOf (F__law_top [.val (.lst (nD [1, 2, 3, 1]))]) = some (.val (.int (topN [1, 2, 3, 1] 0 : Nat))) := by kernel_rfl
theorem pf_37 : (okA [1, 2, 3, 1] (stQ 0 [1, 2, 3, 1]) && (okH [1, 2, 3, 1] (stQ 0 [1, 2, 3, 1]) && okL [1, 2, 3, 1])) = true := by decide +kernel
theorem is_38 : resOf (F_is_row [.val (.lst (nD [1, 2, 3, 1, 1]))]) = some (.val (.bl true)) := by kernel_rfl
theorem sa_38 : resOf (F_stair [.val (.lst (nD [1, 2, 3, 1, 1]))]) = some (.own (.ins "Spots" (spF (stQ 0 [1, 2, 3, 1, 1])))) := by kernel_rfl
theorem sb_38 : resOf (F_stair [.val (.tup (nD [1, 2, 3, 1, 1]))]) = some (.own (.ins "Spots" (spF (stQ 0 [1, 2, 3, 1, 1])))) := by kernel_rfl
theorem lp_38 : resOf (F__law_points [.val (.lst (nD [1, 2, 3, 1, 1]))]) = some (.own (.lst ((stQ 0 [1, 2, 3, 1, 1]).map (v3 false)))) := by kernel_rfl
theorem lt_38 : resOf (F__law_top [.val (.lst (nD [1, 2, 3, 1, 1]))]) = some (.val (.int (topN [1, 2, 3, 1, 1] 0 : Nat))) := by kernel_rfl
theorem pf_38 : (okA [1, 2, 3, 1, 1] (stQ 0 [1, 2, 3, 1, 1]) && (okH [1, 2, 3, 1, 1] (stQ 0 [1, 2, 3, 1, 1]) && okL [1, 2, 3, 1, 1])) = true := by decide +kernel
theorem is_39 : resOf (F_is_row [.val (.lst (nD [1, 2, 3, 1, 1, 1]))]) = some (.val (.bl true)) := by kernel_rfl
theorem sa_39 : resOf (F_stair [.val (.lst (nD [1, 2, 3, 1, 1, 1]))]) = some (.own (.ins "Spots" (spF (stQ 0 [1, 2, 3, 1, 1, 1])))) := by kernel_rfl
theorem sb_39 : resOf (F_stair [.val (.tup (nD [1, 2, 3, 1, 1, 1]))]) = some (.own (.ins "Spots" (spF (stQ 0 [1, 2, 3, 1, 1, 1])))) := by kernel_rfl
theorem lp_39 : resOf (F__law_points [.val (.lst (nD [1, 2, 3, 1, 1, 1]))]) = some (.own (.lst ((stQ 0 [1, 2, 3, 1, 1, 1]).map (v3 false)))) := by kernel_rfl
theorem lt_39 : resOf (F__law_top [.val (.lst (nD [1, 2, 3, 1, 1, 1]))]) = some (.val (.int (topN [1, 2, 3, 1, 1, 1] 0 : Nat))) := by kernel_rfl
theorem pf_39 : (okA [1, 2, 3, 1, 1, 1] (stQ 0 [1, 2, 3, 1, 1, 1]) && (okH [1, 2, 3, 1, 1, 1] (stQ 0 [1, 2, 3, 1, 1, 1]) && okL [1, 2, 3, 1, 1, 1])) = true := by decide +kernel
theorem is_40 : resOf (F_is_row [.val (.lst (nD [1, 2, 3, 1, 1, 1, 1]))]) = some (.val (.bl true)) := by kernel_rfl
theorem sa_40 : resOf (F_stair [.val (.lst (nD [1, 2, 3, 1, 1, 1, 1]))]) = some (.own (.ins "Spots" (spF (stQ 0 [1, 2, 3, 1, 1, 1, 1])))) := by kernel_rfl
theorem sb_40 : resOf (F_stair [.val (.tup (nD [1, 2, 3, 1, 1, 1, 1]))]) = some (.own (.ins "Spots" (spF (stQ 0 [1, 2, 3, 1, 1, 1, 1])))) := by kernel_rfl
theorem lp_40 : resOf (F__law_points [.val (.lst (nD [1, 2, 3, 1, 1, 1, 1]))]) = some (.own (.lst ((stQ 0 [1, 2, 3, 1, 1, 1, 1]).map (v3 false)))) := by kernel_rfl
theorem lt_40 : resOf (F__law_top [.val (.lst (nD [1, 2, 3, 1, 1, 1, 1]))]) = some (.val (.int (topN [1, 2, 3, 1, 1, 1, 1] 0 : Nat))) := by kernel_rfl
theorem pf_40 : (okA [1, 2, 3, 1, 1, 1, 1] (stQ 0 [1, 2, 3, 1, 1, 1, 1]) && (okH [1, 2, 3, 1, 1, 1, 1] (stQ 0 [1, 2, 3, 1, 1, 1, 1]) && okL [1, 2, 3, 1, 1, 1, 1])) = true := by decide +kernel
theorem is_41 : resOf (F_is_row [.val (.lst (nD [1, 2, 3, 1, 1, 1, 1, 1]))]) = some (.val (.bl true)) := by kernel_rfl
theorem sa_41 : resOf (F_stair [.val (.lst (nD [1, 2, 3, 1, 1, 1, 1, 1]))]) = some (.own (.ins "Spots" (spF (stQ 0 [1, 2, 3, 1, 1, 1, 1, 1])))) := by kernel_rfl
theorem sb_41 : resOf (F_stair [.val (.tup (nD [1, 2, 3, 1, 1, 1, 1, 1]))]) = some (.own (.ins "Spots" (spF (stQ 0 [1, 2, 3, 1, 1, 1, 1, 1])))) := by kernel_rfl
theorem lp_41 : resOf (F__law_points [.val (.lst (nD [1, 2, 3, 1, 1, 1, 1, 1]))]) = some (.own (.lst ((stQ 0 [1, 2, 3, 1, 1, 1, 1, 1]).map (v3 false)))) := by kernel_rfl
theorem lt_41 : resOf (F__law_top [.val (.lst (nD [1, 2, 3, 1, 1, 1, 1, 1]))]) = some (.val (.int (topN [1, 2, 3, 1, 1, 1, 1, 1] 0 : Nat))) := by kernel_rfl
theorem pf_41 : (okA [1, 2, 3, 1, 1, 1, 1, 1] (stQ 0 [1, 2, 3, 1, 1, 1, 1, 1]) && (okH [1, 2, 3, 1, 1, 1, 1, 1] (stQ 0 [1, 2, 3, 1, 1, 1, 1, 1]) && okL [1, 2, 3, 1, 1, 1, 1, 1])) = true := by decide +kernel
theorem is_42 : resOf (F_is_row [.val (.lst (nD [1, 2, 3, 1, 1, 1, 1, 1, 1]))]) = some (.val (.bl true)) := by kernel_rfl
theorem sa_42 : resOf (F_stair [.val (.lst (nD [1, 2, 3, 1, 1, 1, 1, 1, 1]))]) = some (.own (.ins "Spots" (spF (stQ 0 [1, 2, 3, 1, 1, 1, 1, 1, 1])))) := by kernel_rfl
theorem sb_42 : resOf (F_stair [.val (.tup (nD [1, 2, 3, 1, 1, 1, 1, 1, 1]))]) = some (.own (.ins "Spots" (spF (stQ 0 [1, 2, 3, 1, 1, 1, 1, 1, 1])))) := by kernel_rfl
theorem lp_42 : resOf (F__law_points [.val (.lst (nD [1, 2, 3, 1, 1, 1, 1, 1, 1]))]) = some (.own (.lst ((stQ 0 [1, 2, 3, 1, 1, 1, 1, 1, 1]).map (v3 false)))) := by kernel_rfl
theorem lt_42 : resOf (F__law_top [.val (.lst (nD [1, 2, 3, 1, 1, 1, 1, 1, 1]))]) = some (.val (.int (topN [1, 2, 3, 1, 1, 1, 1, 1, 1] 0 : Nat))) := by kernel_rfl
theorem pf_42 : (okA [1, 2, 3, 1, 1, 1, 1, 1, 1] (stQ 0 [1, 2, 3, 1, 1, 1, 1, 1, 1]) && (okH [1, 2, 3, 1, 1, 1, 1, 1, 1] (stQ 0 [1, 2, 3, 1, 1, 1, 1, 1, 1]) && okL [1, 2, 3, 1, 1, 1, 1, 1, 1])) = true := by decide +kernel
theorem is_43 : resOf (F_is_row [.val (.lst (nD [1, 2, 3, 2]))]) = some (.val (.bl true)) := by kernel_rfl
theorem sa_43 : resOf (F_stair [.val (.lst (nD [1, 2, 3, 2]))]) = some (.own (.ins "Spots" (spF (stQ 0 [1, 2, 3, 2])))) := by kernel_rfl
theorem sb_43 : resOf (F_stair [.val (.tup (nD [1, 2, 3, 2]))]) = some (.own (.ins "Spots" (spF (stQ 0 [1, 2, 3, 2])))) := by kernel_rfl
theorem lp_43 : resOf (F__law_points [.val (.lst (nD [1, 2, 3, 2]))]) = some (.own (.lst ((stQ 0 [1, 2, 3, 2]).map (v3 false)))) := by kernel_rfl
theorem lt_43 : resOf (F__law_top [.val (.lst (nD [1, 2, 3, 2]))]) = some (.val (.int (topN [1, 2, 3, 2] 0 : Nat))) := by kernel_rfl
theorem pf_43 : (okA [1, 2, 3, 2] (stQ 0 [1, 2, 3, 2]) && (okH [1, 2, 3, 2] (stQ 0 [1, 2, 3, 2]) && okL [1, 2, 3, 2])) = true := by decide +kernel
end
end VE

set_option exponentiation.threshold 10000
namespace VE
open PySem PySem.Spec PyProof.Rows L2 G0 RK
noncomputable section
theorem is_44 : resOf (F_is_row [.val (.lst (nD [1, 2, 3, 2, 1]))]) = some (.val (.bl true)) := by kernel_rfl
theorem sa_44 : resOf (F_stair [.val (.lst (nD [1, 2, 3, 2, 1]))]) = some (.own (.ins "Spots" (spF (stQ 0 [1, 2, 3, 2, 1])))) := by kernel_rfl
theorem sb_44 : resOf (F_stair [.val (.tup (nD [1, 2, 3, 2, 1]))]) = some (.own (.ins "Spots" (spF (stQ 0 [1, 2, 3, 2, 1])))) := by kernel_rfl
theorem lp_44 : resOf (F__law_points [.val (.lst (nD [1, 2, 3, 2, 1]))]) = some (.own (.lst ((stQ 0 [1, 2, 3, 2, 1]).map (v3 false)))) := by kernel_rfl
theorem lt_44 : resOf (F__law_top [.val (.lst (nD [1, 2, 3, 2, 1]))]) = some (.val (.int (topN [1, 2, 3, 2, 1] 0 : Nat))) := by kernel_rfl
theorem pf_44 : (okA [1, 2, 3, 2, 1] (stQ 0 [1, 2, 3, 2, 1]) && (okH [1, 2, 3, 2, 1] (stQ 0 [1, 2, 3, 2, 1]) && okL [1, 2, 3, 2, 1])) = true := by decide +kernel
theorem is_45 : resOf (F_is_row [.val (.lst (nD [1, 2, 3, 2, 1, 1]))]) = some (.val (.bl true)) := by kernel_rfl
theorem sa_45 : resOf (F_stair [.val (.lst (nD [1, 2, 3, 2, 1, 1]))]) = some (.own (.ins "Spots" (spF (stQ 0 [1, 2, 3, 2, 1, 1])))) := by kernel_rfl
theorem sb_45 : resOf (F_stair [.val (.tup (nD [1, 2, 3, 2, 1, 1]))]) = some (.own (.ins "Spots" (spF (stQ 0 [1, 2, 3, 2, 1, 1])))) := by kernel_rfl
theorem lp_45 : resOf (F__law_points [.val (.lst (nD [1, 2, 3, 2, 1, 1]))]) = some (.own (.lst ((stQ 0 [1, 2, 3, 2, 1, 1]).map (v3 false)))) := by kernel_rfl
theorem lt_45 : resOf (F__law_top [.val (.lst (nD [1, 2, 3, 2, 1, 1]))]) = some (.val (.int (topN [1, 2, 3, 2, 1, 1] 0 : Nat))) := by kernel_rfl
theorem pf_45 : (okA [1, 2, 3, 2, 1, 1] (stQ 0 [1, 2, 3, 2, 1, 1]) && (okH [1, 2, 3, 2, 1, 1] (stQ 0 [1, 2, 3, 2, 1, 1]) && okL [1, 2, 3, 2, 1, 1])) = true := by decide +kernel
theorem is_46 : resOf (F_is_row [.val (.lst (nD [1, 2, 3, 2, 1, 1, 1]))]) = some (.val (.bl true)) := by kernel_rfl
theorem sa_46 : resOf (F_stair [.val (.lst (nD [1, 2, 3, 2, 1, 1, 1]))]) = some (.own (.ins "Spots" (spF (stQ 0 [1, 2, 3, 2, 1, 1, 1])))) := by kernel_rfl
theorem sb_46 : resOf (F_stair [.val (.tup (nD [1, 2, 3, 2, 1, 1, 1]))]) = some (.own (.ins "Spots" (spF (stQ 0 [1, 2, 3, 2, 1, 1, 1])))) := by kernel_rfl
theorem lp_46 : resOf (F__law_points [.val (.lst (nD [1, 2, 3, 2, 1, 1, 1]))]) = some (.own (.lst ((stQ 0 [1, 2, 3, 2, 1, 1, 1]).map (v3 false)))) := by kernel_rfl
theorem lt_46 : resOf (F__law_top [.val (.lst (nD [1, 2, 3, 2, 1, 1, 1]))]) = some (.val (.int (topN [1, 2, 3, 2, 1, 1, 1] 0 : Nat))) := by kernel_rfl
theorem pf_46 : (okA [1, 2, 3, 2, 1, 1, 1] (stQ 0 [1, 2, 3, 2, 1, 1, 1]) && (okH [1, 2, 3, 2, 1, 1, 1] (stQ 0 [1, 2, 3, 2, 1, 1, 1]) && okL [1, 2, 3, 2, 1, 1, 1])) = true := by decide +kernel
theorem is_47 : resOf (F_is_row [.val (.lst (nD [1, 2, 3, 2, 1, 1, 1, 1]))]) = some (.val (.bl true)) := by kernel_rfl
theorem sa_47 : resOf (F_stair [.val (.lst (nD [1, 2, 3, 2, 1, 1, 1, 1]))]) = some (.own (.ins "Spots" (spF (stQ 0 [1, 2, 3, 2, 1, 1, 1, 1])))) := by kernel_rfl
theorem sb_47 : resOf (F_stair [.val (.tup (nD [1, 2, 3, 2, 1, 1, 1, 1]))]) = some (.own (.ins "Spots" (spF (stQ 0 [1, 2, 3, 2, 1, 1, 1, 1])))) := by kernel_rfl
theorem lp_47 : resOf (F__law_points [.val (.lst (nD [1, 2, 3, 2, 1, 1, 1, 1]))]) = some (.own (.lst ((stQ 0 [1, 2, 3, 2, 1, 1, 1, 1]).map (v3 false)))) := by kernel_rfl
theorem lt_47 : resOf (F__law_top [.val (.lst (nD [1, 2, 3, 2, 1, 1, 1, 1]))]) = some (.val (.int (topN [1, 2, 3, 2, 1, 1, 1, 1] 0 : Nat))) := by kernel_rfl
theorem pf_47 : (okA [1, 2, 3, 2, 1, 1, 1, 1] (stQ 0 [1, 2, 3, 2, 1, 1, 1, 1]) && (okH [1, 2, 3, 2, 1, 1, 1, 1] (stQ 0 [1, 2, 3, 2, 1, 1, 1, 1]) && okL [1, 2, 3, 2, 1, 1, 1, 1])) = true := by decide +kernel
theorem is_48 : resOf (F_is_row [.val (.lst (nD [1, 2, 3, 2, 2]))]) = some (.val (.bl true)) := by kernel_rfl
theorem sa_48 : resOf (F_stair [.val (.lst (nD [1, 2, 3, 2, 2]))]) = some (.own (.ins "Spots" (spF (stQ 0 [1, 2, 3, 2, 2])))) := by kernel_rfl
theorem sb_48 : resOf (F_stair [.val (.tup (nD [1, 2, 3, 2, 2]))]) = some (.own (.ins "Spots" (spF (stQ 0 [1, 2, 3, 2, 2])))) := by kernel_rfl
theorem lp_48 : resOf (F__law_points [.val (.lst (nD [1, 2, 3, 2, 2]))]) = some (.own (.lst ((stQ 0 [1, 2, 3, 2, 2]).map (v3 false)))) := by kernel_rfl
theorem lt_48 : resOf (F__law_top [.val (.lst (nD [1, 2, 3, 2, 2]))]) = some (.val (.int (topN [1, 2, 3, 2, 2] 0 : Nat))) := by kernel_rfl
theorem pf_48 : (okA [1, 2, 3, 2, 2] (stQ 0 [1, 2, 3, 2, 2]) && (okH [1, 2, 3, 2, 2] (stQ 0 [1, 2, 3, 2, 2]) && okL [1, 2, 3, 2, 2])) = true := by decide +kernel
theorem is_49 : resOf (F_is_row [.val (.lst (nD [1, 2, 3, 2, 2, 1]))]) = some (.val (.bl true)) := by kernel_rfl
theorem sa_49 : resOf (F_stair [.val (.lst (nD [1, 2, 3, 2, 2, 1]))]) = some (.own (.ins "Spots" (spF (stQ 0 [1, 2, 3, 2, 2, 1])))) := by kernel_rfl
theorem sb_49 : resOf (F_stair [.val (.tup (nD [1, 2, 3, 2, 2, 1]))]) = some (.own (.ins "Spots" (spF (stQ 0 [1, 2, 3, 2, 2, 1])))) := by kernel_rfl
theorem lp_49 : resOf (F__law_points [.val (.lst (nD [1, 2, 3, 2, 2, 1]))]) = some (.own (.lst ((stQ 0 [1, 2, 3, 2, 2, 1]).map (v3 false)))) := by kernel_rfl
theorem lt_49 : resOf (F__law_top [.val (.lst (nD [1, 2, 3, 2, 2, 1]))]) = some (.val (.int (topN [1, 2, 3, 2, 2, 1] 0 : Nat))) := by kernel_rfl
theorem pf_49 : (okA [1, 2, 3, 2, 2, 1] (stQ 0 [1, 2, 3, 2, 2, 1]) && (okH [1, 2, 3, 2, 2, 1] (stQ 0 [1, 2, 3, 2, 2, 1]) && okL [1, 2, 3, 2, 2, 1])) = true := by decide +kernel
theorem is_50 : resOf (F_is_row [.val (.lst (nD [1, 2, 3, 2, 2, 1, 1]))]) = some (.val (.bl true)) := by kernel_rfl
theorem sa_50 : resOf (F_stair [.val (.lst (nD [1, 2, 3, 2, 2, 1, 1]))]) = some (.own (.ins "Spots" (spF (stQ 0 [1, 2, 3, 2, 2, 1, 1])))) := by kernel_rfl
theorem sb_50 : resOf (F_stair [.val (.tup (nD [1, 2, 3, 2, 2, 1, 1]))]) = some (.own (.ins "Spots" (spF (stQ 0 [1, 2, 3, 2, 2, 1, 1])))) := by kernel_rfl
theorem lp_50 : resOf (F__law_points [.val (.lst (nD [1, 2, 3, 2, 2, 1, 1]))]) = some (.own (.lst ((stQ 0 [1, 2, 3, 2, 2, 1, 1]).map (v3 false)))) := by kernel_rfl
theorem lt_50 : resOf (F__law_top [.val (.lst (nD [1, 2, 3, 2, 2, 1, 1]))]) = some (.val (.int (topN [1, 2, 3, 2, 2, 1, 1] 0 : Nat))) := by kernel_rfl
theorem pf_50 : (okA [1, 2, 3, 2, 2, 1, 1] (stQ 0 [1, 2, 3, 2, 2, 1, 1]) && (okH [1, 2, 3, 2, 2, 1, 1] (stQ 0 [1, 2, 3, 2, 2, 1, 1]) && okL [1, 2, 3, 2, 2, 1, 1])) = true := by decide +kernel
theorem is_51 : resOf (F_is_row [.val (.lst (nD [1, 2, 3, 2, 2, 2]))]) = some (.val (.bl true)) := by kernel_rfl
theorem sa_51 : resOf (F_stair [.val (.lst (nD [1, 2, 3, 2, 2, 2]))]) = some (.own (.ins "Spots" (spF (stQ 0 [1, 2, 3, 2, 2, 2])))) := by kernel_rfl
theorem sb_51 : resOf (F_stair [.val (.tup (nD [1, 2, 3, 2, 2, 2]))]) = some (.own (.ins "Spots" (spF (stQ 0 [1, 2, 3, 2, 2, 2])))) := by kernel_rfl
theorem lp_51 : resOf (F__law_points [.val (.lst (nD [1, 2, 3, 2, 2, 2]))]) = some (.own (.lst ((stQ 0 [1, 2, 3, 2, 2, 2]).map (v3 false)))) := by kernel_rfl
theorem lt_51 : resOf (F__law_top [.val (.lst (nD [1, 2, 3, 2, 2, 2]))]) = some (.val (.int (topN [1, 2, 3, 2, 2, 2] 0 : Nat))) := by kernel_rfl
theorem pf_51 : (okA [1, 2, 3, 2, 2, 2] (stQ 0 [1, 2, 3, 2, 2, 2]) && (okH [1, 2, 3, 2, 2, 2] (stQ 0 [1, 2, 3, 2, 2, 2]) && okL [1, 2, 3, 2, 2, 2])) = true := by decide +kernel
theorem is_52 : resOf (F_is_row [.val (.lst (nD [1, 2, 3, 3]))]) = some (.val (.bl true)) := by kernel_rfl
theorem sa_52 : resOf (F_stair [.val (.lst (nD [1, 2, 3, 3]))]) = some (.own (.ins "Spots" (spF (stQ 0 [1, 2, 3, 3])))) := by kernel_rfl
theorem sb_52 : resOf (F_stair [.val (.tup (nD [1, 2, 3, 3]))]) = some (.own (.ins "Spots" (spF (stQ 0 [1, 2, 3, 3])))) := by kernel_rfl
theorem lp_52 : resOf (F__law_points [.val (.lst (nD [1, 2, 3, 3]))]) = some (.own (.lst ((stQ 0 [1, 2, 3, 3]).map (v3 false)))) := by kernel_rfl
theorem lt_52 : resOf (F__law_top [.val (.lst (nD [1, 2, 3, 3]))]) = some (.val (.int (topN [1, 2, 3, 3] 0 : Nat))) := by kernel_rfl
theorem pf_52 : (okA [1, 2, 3, 3] (stQ 0 [1, 2, 3, 3]) && (okH [1, 2, 3, 3] (stQ 0 [1, 2, 3, 3]) && okL [1, 2, 3, 3])) = true := by decide +kernel
theorem is_53 : resOf (F_is_row [.val (.lst (nD [1, 2, 3, 3, 1]))]) = some (.val (.bl true)) := by kernel_rfl
theorem sa_53 : resOf (F_stair [.val (.lst (nD [1, 2, 3, 3, 1]))]) = some (.own (.ins "Spots" (spF (stQ 0 [1, 2, 3, 3, 1])))) := by kernel_rfl
theorem sb_53 : resOf (F_stair [.val (.tup (nD [1, 2, 3, 3, 1]))]) = some (.own (.ins "Spots" (spF (stQ 0 [1, 2, 3, 3, 1])))) := by kernel_rfl
theorem lp_53 : resOf (F__law_points [.val (.lst (nD [1, 2, 3, 3, 1]))]) = some (.own (.lst ((stQ 0 [1, 2, 3, 3, 1]).map (v3 false)))) := by kernel_rfl
theorem lt_53 : resOf (F__law_top [.val (.lst (nD [1, 2, 3, 3, 1]))]) = some (.val (.int (topN [1, 2, 3, 3, 1] 0 : Nat))) := by kernel_rfl
theorem pf_53 : (okA [1, 2, 3, 3, 1] (stQ 0 [1, 2, 3, 3, 1]) && (okH [1, 2, 3, 3, 1] (stQ 0 [1, 2, 3, 3, 1]) && okL [1, 2, 3, 3, 1])) = true := by decide +kernel
theorem is_54 : resOf (F_is_row [.val (.lst (nD [1, 2, 3, 3, 1, 1]))]) = some (.val (.bl true)) := by kernel_rfl
theorem sa_54 : resOf (F_stair [.val (.lst (nD [1, 2, 3, 3, 1, 1]))]) = some (.own (.ins "Spots" (spF (stQ 0 [1, 2, 3, 3, 1, 1])))) := by kernel_rfl
theorem sb_54 : resOf (F_stair [.val (.tup (nD [1, 2, 3, 3, 1, 1]))]) = some (.own (.ins "Spots" (spF (stQ 0 [1, 2, 3, 3, 1, 1])))) := by kernel_rfl
theorem lp_54 : resOf (F__law_points [.val (.lst (nD [1, 2, 3, 3, 1, 1]))]) = some (.own (.lst ((stQ 0 [1, 2, 3, 3, 1, 1]).map (v3 false)))) := by kernel_rfl
theorem lt_54 : resOf (F__law_top [.val (.lst (nD [1, 2, 3, 3, 1, 1]))]) = some (.val (.int (topN [1, 2, 3, 3, 1, 1] 0 : Nat))) := by kernel_rfl
theorem pf_54 : (okA [1, 2, 3, 3, 1, 1] (stQ 0 [1, 2, 3, 3, 1, 1]) && (okH [1, 2, 3, 3, 1, 1] (stQ 0 [1, 2, 3, 3, 1, 1]) && okL [1, 2, 3, 3, 1, 1])) = true := by decide +kernel
end
end VE

set_option exponentiation.threshold 10000
namespace VE
open PySem PySem.Spec PyProof.Rows L2 G0 RK
noncomputable section
theorem is_55 : resOf (F_is_row [.val (.lst (nD [1, 2, 3, 3, 1, 1, 1]))]) = some (.val (.bl true)) := by kernel_rfl
theorem sa_55 : resOf (F_stair [.val (.lst (nD [1, 2, 3, 3, 1, 1, 1]))]) = some (.own (.ins "Spots" (spF (stQ 0 [1, 2, 3, 3, 1, 1, 1])))) := by kernel_rfl
theorem sb_55 : resOf (F_stair [.val (.tup (nD [1, 2, 3, 3, 1, 1, 1]))]) = some (.own (.ins "Spots" (spF (stQ 0 [1, 2, 3, 3, 1, 1, 1])))) := by kernel_rfl
theorem lp_55 : resOf (F__law_points [.val (.lst (nD [1, 2, 3, 3, 1, 1, 1]))]) = some (.own (.lst ((stQ 0 [1, 2, 3, 3, 1, 1, 1]).map (v3 false)))) := by kernel_rfl
theorem lt_55 : resOf (F__law_top [.val (.lst (nD [1, 2, 3, 3, 1, 1, 1]))]) = some (.val (.int (topN [1, 2, 3, 3, 1, 1, 1] 0 : Nat))) := by kernel_rfl
theorem pf_55 : (okA [1, 2, 3, 3, 1, 1, 1] (stQ 0 [1, 2, 3, 3, 1, 1, 1]) && (okH [1, 2, 3, 3, 1, 1, 1] (stQ 0 [1, 2, 3, 3, 1, 1, 1]) && okL [1, 2, 3, 3, 1, 1, 1])) = true := by decide +kernel
theorem is_56 : resOf (F_is_row [.val (.lst (nD [1, 2, 3, 3, 2]))]) = some (.val (.bl true)) := by kernel_rfl
theorem sa_56 : resOf (F_stair [.val (.lst (nD [1, 2, 3, 3, 2]))]) = some (.own (.ins "Spots" (spF (stQ 0 [1, 2, 3, 3, 2])))) := by kernel_rfl
theorem sb_56 : resOf (F_stair [.val (.tup (nD [1, 2, 3, 3, 2]))]) = some (.own (.ins "Spots" (spF (stQ 0 [1, 2, 3, 3, 2])))) := by kernel_rfl
theorem lp_56 : resOf (F__law_points [.val (.lst (nD [1, 2, 3, 3, 2]))]) = some (.own (.lst ((stQ 0 [1, 2, 3, 3, 2]).map (v3 false)))) := by kernel_rfl
theorem lt_56 : resOf (F__law_top [.val (.lst (nD [1, 2, 3, 3, 2]))]) = some (.val (.int (topN [1, 2, 3, 3, 2] 0 : Nat))) := by kernel_rfl
theorem pf_56 : (okA [1, 2, 3, 3, 2] (stQ 0 [1, 2, 3, 3, 2]) && (okH [1, 2, 3, 3, 2] (stQ 0 [1, 2, 3, 3, 2]) && okL [1, 2, 3, 3, 2])) = true := by decide +kernel
theorem is_57 : resOf (F_is_row [.val (.lst (nD [1, 2, 3, 3, 2, 1]))]) = some (.val (.bl true)) := by kernel_rfl
theorem sa_57 : resOf (F_stair [.val (.lst (nD [1, 2, 3, 3, 2, 1]))]) = some (.own (.ins "Spots" (spF (stQ 0 [1, 2, 3, 3, 2, 1])))) := by kernel_rfl
theorem sb_57 : resOf (F_stair [.val (.tup (nD [1, 2, 3, 3, 2, 1]))]) = some (.own (.ins "Spots" (spF (stQ 0 [1, 2, 3, 3, 2, 1])))) := by kernel_rfl
theorem lp_57 : resOf (F__law_points [.val (.lst (nD [1, 2, 3, 3, 2, 1]))]) = some (.own (.lst ((stQ 0 [1, 2, 3, 3, 2, 1]).map (v3 false)))) := by kernel_rfl
theorem lt_57 : resOf (F__law_top [.val (.lst (nD [1, 2, 3, 3, 2, 1]))]) = some (.val (.int (topN [1, 2, 3, 3, 2, 1] 0 : Nat))) := by kernel_rfl
theorem pf_57 : (okA [1, 2, 3, 3, 2, 1] (stQ 0 [1, 2, 3, 3, 2, 1]) && (okH [1, 2, 3, 3, 2, 1] (stQ 0 [1, 2, 3, 3, 2, 1]) && okL [1, 2, 3, 3, 2, 1])) = true := by decide +kernel
theorem is_58 : resOf (F_is_row [.val (.lst (nD [1, 2, 3, 3, 3]))]) = some (.val (.bl true)) := by kernel_rfl
theorem sa_58 : resOf (F_stair [.val (.lst (nD [1, 2, 3, 3, 3]))]) = some (.own (.ins "Spots" (spF (stQ 0 [1, 2, 3, 3, 3])))) := by kernel_rfl
theorem sb_58 : resOf (F_stair [.val (.tup (nD [1, 2, 3, 3, 3]))]) = some (.own (.ins "Spots" (spF (stQ 0 [1, 2, 3, 3, 3])))) := by kernel_rfl
theorem lp_58 : resOf (F__law_points [.val (.lst (nD [1, 2, 3, 3, 3]))]) = some (.own (.lst ((stQ 0 [1, 2, 3, 3, 3]).map (v3 false)))) := by kernel_rfl
theorem lt_58 : resOf (F__law_top [.val (.lst (nD [1, 2, 3, 3, 3]))]) = some (.val (.int (topN [1, 2, 3, 3, 3] 0 : Nat))) := by kernel_rfl
theorem pf_58 : (okA [1, 2, 3, 3, 3] (stQ 0 [1, 2, 3, 3, 3]) && (okH [1, 2, 3, 3, 3] (stQ 0 [1, 2, 3, 3, 3]) && okL [1, 2, 3, 3, 3])) = true := by decide +kernel
theorem is_59 : resOf (F_is_row [.val (.lst (nD [1, 2, 3, 4]))]) = some (.val (.bl true)) := by kernel_rfl
theorem sa_59 : resOf (F_stair [.val (.lst (nD [1, 2, 3, 4]))]) = some (.own (.ins "Spots" (spF (stQ 0 [1, 2, 3, 4])))) := by kernel_rfl
theorem sb_59 : resOf (F_stair [.val (.tup (nD [1, 2, 3, 4]))]) = some (.own (.ins "Spots" (spF (stQ 0 [1, 2, 3, 4])))) := by kernel_rfl
theorem lp_59 : resOf (F__law_points [.val (.lst (nD [1, 2, 3, 4]))]) = some (.own (.lst ((stQ 0 [1, 2, 3, 4]).map (v3 false)))) := by kernel_rfl
theorem lt_59 : resOf (F__law_top [.val (.lst (nD [1, 2, 3, 4]))]) = some (.val (.int (topN [1, 2, 3, 4] 0 : Nat))) := by kernel_rfl
theorem pf_59 : (okA [1, 2, 3, 4] (stQ 0 [1, 2, 3, 4]) && (okH [1, 2, 3, 4] (stQ 0 [1, 2, 3, 4]) && okL [1, 2, 3, 4])) = true := by decide +kernel
theorem is_60 : resOf (F_is_row [.val (.lst (nD [1, 2, 3, 4, 1]))]) = some (.val (.bl true)) := by kernel_rfl
theorem sa_60 : resOf (F_stair [.val (.lst (nD [1, 2, 3, 4, 1]))]) = some (.own (.ins "Spots" (spF (stQ 0 [1, 2, 3, 4, 1])))) := by kernel_rfl
theorem sb_60 : resOf (F_stair [.val (.tup (nD [1, 2, 3, 4, 1]))]) = some (.own (.ins "Spots" (spF (stQ 0 [1, 2, 3, 4, 1])))) := by kernel_rfl
theorem lp_60 : resOf (F__law_points [.val (.lst (nD [1, 2, 3, 4, 1]))]) = some (.own (.lst ((stQ 0 [1, 2, 3, 4, 1]).map (v3 false)))) := by kernel_rfl
theorem lt_60 : resOf (F__law_top [.val (.lst (nD [1, 2, 3, 4, 1]))]) = some (.val (.int (topN [1, 2, 3, 4, 1] 0 : Nat))) := by kernel_rfl
theorem pf_60 : (okA [1, 2, 3, 4, 1] (stQ 0 [1, 2, 3, 4, 1]) && (okH [1, 2, 3, 4, 1] (stQ 0 [1, 2, 3, 4, 1]) && okL [1, 2, 3, 4, 1])) = true := by decide +kernel
theorem is_61 : resOf (F_is_row [.val (.lst (nD [1, 2, 3, 4, 1, 1]))]) = some (.val (.bl true)) := by kernel_rfl
theorem sa_61 : resOf (F_stair [.val (.lst (nD [1, 2, 3, 4, 1, 1]))]) = some (.own (.ins "Spots" (spF (stQ 0 [1, 2, 3, 4, 1, 1])))) := by kernel_rfl
theorem sb_61 : resOf (F_stair [.val (.tup (nD [1, 2, 3, 4, 1, 1]))]) = some (.own (.ins "Spots" (spF (stQ 0 [1, 2, 3, 4, 1, 1])))) := by kernel_rfl
theorem lp_61 : resOf (F__law_points [.val (.lst (nD [1, 2, 3, 4, 1, 1]))]) = some (.own (.lst ((stQ 0 [1, 2, 3, 4, 1, 1]).map (v3 false)))) := by kernel_rfl
theorem lt_61 : resOf (F__law_top [.val (.lst (nD [1, 2, 3, 4, 1, 1]))]) = some (.val (.int (topN [1, 2, 3, 4, 1, 1] 0 : Nat))) := by kernel_rfl
theorem pf_61 : (okA [1, 2, 3, 4, 1, 1] (stQ 0 [1, 2, 3, 4, 1, 1]) && (okH [1, 2, 3, 4, 1, 1] (stQ 0 [1, 2, 3, 4, 1, 1]) && okL [1, 2, 3, 4, 1, 1])) = true := by decide +kernel
theorem is_62 : resOf (F_is_row [.val (.lst (nD [1, 2, 3, 4, 2]))]) = some (.val (.bl true)) := by kernel_rfl
theorem sa_62 : resOf (F_stair [.val (.lst (nD [1, 2, 3, 4, 2]))]) = some (.own (.ins "Spots" (spF (stQ 0 [1, 2, 3, 4, 2])))) := by kernel_rfl
theorem sb_62 : resOf (F_stair [.val (.tup (nD [1, 2, 3, 4, 2]))]) = some (.own (.ins "Spots" (spF (stQ 0 [1, 2, 3, 4, 2])))) := by kernel_rfl
theorem lp_62 : resOf (F__law_points [.val (.lst (nD [1, 2, 3, 4, 2]))]) = some (.own (.lst ((stQ 0 [1, 2, 3, 4, 2]).map (v3 false)))) := by kernel_rfl
theorem lt_62 : resOf (F__law_top [.val (.lst (nD [1, 2, 3, 4, 2]))]) = some (.val (.int (topN [1, 2, 3, 4, 2] 0 : Nat))) := by kernel_rfl
theorem pf_62 : (okA [1, 2, 3, 4, 2] (stQ 0 [1, 2, 3, 4, 2]) && (okH [1, 2, 3, 4, 2] (stQ 0 [1, 2, 3, 4, 2]) && okL [1, 2, 3, 4, 2])) = true := by decide +kernel
end
end VE

set_option exponentiation.threshold 10000
namespace VE
open PySem PySem.Spec PyProof.Rows L2 G0 RK
noncomputable section
structure RF (l : List Nat) : Prop where
  is : resOf (F_is_row [.val (.lst (nD l))]) = some (.val (.bl true))
  sa : resOf (F_stair [.val (.lst (nD l))]) = some (.own (.ins "Spots" (spF (stQ 0 l))))
  sb : resOf (F_stair [.val (.tup (nD l))]) = some (.own (.ins "Spots" (spF (stQ 0 l))))
  lp : resOf (F__law_points [.val (.lst (nD l))]) = some (.own (.lst ((stQ 0 l).map (v3 false))))
  lt : resOf (F__law_top [.val (.lst (nD l))]) = some (.val (.int (topN l 0 : Nat)))
  pf : (okA l (stQ 0 l) && (okH l (stQ 0 l) && okL l)) = true
theorem allc {α : Type} {P : α → Prop} {a : α} {l : List α} (h : P a) (t : ∀ x ∈ l, P x) : ∀ x ∈ a :: l, P x := fun x hx => by
  rcases List.mem_cons.mp hx with rfl | hx
  · exact h
  · exact t x hx
theorem alln {α : Type} {P : α → Prop} : ∀ x ∈ ([] : List α), P x := fun x hx => nomatch hx
theorem rowsF : ∀ l ∈ rowsL, RF l :=
  allc ⟨is_0, sa_0, sb_0, lp_0, lt_0, pf_0⟩ <|
  allc ⟨is_1, sa_1, sb_1, lp_1, lt_1, pf_1⟩ <|
  allc ⟨is_2, sa_2, sb_2, lp_2, lt_2, pf_2⟩ <|
  allc ⟨is_3, sa_3, sb_3, lp_3, lt_3, pf_3⟩ <|
  allc ⟨is_4, sa_4, sb_4, lp_4, lt_4, pf_4⟩ <|
  allc ⟨is_5, sa_5, sb_5, lp_5, lt_5, pf_5⟩ <|
  allc ⟨is_6, sa_6, sb_6, lp_6, lt_6, pf_6⟩ <|
  allc ⟨is_7, sa_7, sb_7, lp_7, lt_7, pf_7⟩ <|
  allc ⟨is_8, sa_8, sb_8, lp_8, lt_8, pf_8⟩ <|
  allc ⟨is_9, sa_9, sb_9, lp_9, lt_9, pf_9⟩ <|
  allc ⟨is_10, sa_10, sb_10, lp_10, lt_10, pf_10⟩ <|
  allc ⟨is_11, sa_11, sb_11, lp_11, lt_11, pf_11⟩ <|
  allc ⟨is_12, sa_12, sb_12, lp_12, lt_12, pf_12⟩ <|
  allc ⟨is_13, sa_13, sb_13, lp_13, lt_13, pf_13⟩ <|
  allc ⟨is_14, sa_14, sb_14, lp_14, lt_14, pf_14⟩ <|
  allc ⟨is_15, sa_15, sb_15, lp_15, lt_15, pf_15⟩ <|
  allc ⟨is_16, sa_16, sb_16, lp_16, lt_16, pf_16⟩ <|
  allc ⟨is_17, sa_17, sb_17, lp_17, lt_17, pf_17⟩ <|
  allc ⟨is_18, sa_18, sb_18, lp_18, lt_18, pf_18⟩ <|
  allc ⟨is_19, sa_19, sb_19, lp_19, lt_19, pf_19⟩ <|
  allc ⟨is_20, sa_20, sb_20, lp_20, lt_20, pf_20⟩ <|
  allc ⟨is_21, sa_21, sb_21, lp_21, lt_21, pf_21⟩ <|
  allc ⟨is_22, sa_22, sb_22, lp_22, lt_22, pf_22⟩ <|
  allc ⟨is_23, sa_23, sb_23, lp_23, lt_23, pf_23⟩ <|
  allc ⟨is_24, sa_24, sb_24, lp_24, lt_24, pf_24⟩ <|
  allc ⟨is_25, sa_25, sb_25, lp_25, lt_25, pf_25⟩ <|
  allc ⟨is_26, sa_26, sb_26, lp_26, lt_26, pf_26⟩ <|
  allc ⟨is_27, sa_27, sb_27, lp_27, lt_27, pf_27⟩ <|
  allc ⟨is_28, sa_28, sb_28, lp_28, lt_28, pf_28⟩ <|
  allc ⟨is_29, sa_29, sb_29, lp_29, lt_29, pf_29⟩ <|
  allc ⟨is_30, sa_30, sb_30, lp_30, lt_30, pf_30⟩ <|
  allc ⟨is_31, sa_31, sb_31, lp_31, lt_31, pf_31⟩ <|
  allc ⟨is_32, sa_32, sb_32, lp_32, lt_32, pf_32⟩ <|
  allc ⟨is_33, sa_33, sb_33, lp_33, lt_33, pf_33⟩ <|
  allc ⟨is_34, sa_34, sb_34, lp_34, lt_34, pf_34⟩ <|
  allc ⟨is_35, sa_35, sb_35, lp_35, lt_35, pf_35⟩ <|
  allc ⟨is_36, sa_36, sb_36, lp_36, lt_36, pf_36⟩ <|
  allc ⟨is_37, sa_37, sb_37, lp_37, lt_37, pf_37⟩ <|
  allc ⟨is_38, sa_38, sb_38, lp_38, lt_38, pf_38⟩ <|
  allc ⟨is_39, sa_39, sb_39, lp_39, lt_39, pf_39⟩ <|
  allc ⟨is_40, sa_40, sb_40, lp_40, lt_40, pf_40⟩ <|
  allc ⟨is_41, sa_41, sb_41, lp_41, lt_41, pf_41⟩ <|
  allc ⟨is_42, sa_42, sb_42, lp_42, lt_42, pf_42⟩ <|
  allc ⟨is_43, sa_43, sb_43, lp_43, lt_43, pf_43⟩ <|
  allc ⟨is_44, sa_44, sb_44, lp_44, lt_44, pf_44⟩ <|
  allc ⟨is_45, sa_45, sb_45, lp_45, lt_45, pf_45⟩ <|
  allc ⟨is_46, sa_46, sb_46, lp_46, lt_46, pf_46⟩ <|
  allc ⟨is_47, sa_47, sb_47, lp_47, lt_47, pf_47⟩ <|
  allc ⟨is_48, sa_48, sb_48, lp_48, lt_48, pf_48⟩ <|
  allc ⟨is_49, sa_49, sb_49, lp_49, lt_49, pf_49⟩ <|
  allc ⟨is_50, sa_50, sb_50, lp_50, lt_50, pf_50⟩ <|
  allc ⟨is_51, sa_51, sb_51, lp_51, lt_51, pf_51⟩ <|
  allc ⟨is_52, sa_52, sb_52, lp_52, lt_52, pf_52⟩ <|
  allc ⟨is_53, sa_53, sb_53, lp_53, lt_53, pf_53⟩ <|
  allc ⟨is_54, sa_54, sb_54, lp_54, lt_54, pf_54⟩ <|
  allc ⟨is_55, sa_55, sb_55, lp_55, lt_55, pf_55⟩ <|
  allc ⟨is_56, sa_56, sb_56, lp_56, lt_56, pf_56⟩ <|
  allc ⟨is_57, sa_57, sb_57, lp_57, lt_57, pf_57⟩ <|
  allc ⟨is_58, sa_58, sb_58, lp_58, lt_58, pf_58⟩ <|
  allc ⟨is_59, sa_59, sb_59, lp_59, lt_59, pf_59⟩ <|
  allc ⟨is_60, sa_60, sb_60, lp_60, lt_60, pf_60⟩ <|
  allc ⟨is_61, sa_61, sb_61, lp_61, lt_61, pf_61⟩ <|
  allc ⟨is_62, sa_62, sb_62, lp_62, lt_62, pf_62⟩ <|
  alln
end
end VE

set_option exponentiation.threshold 10000
namespace VE
open PySem PySem.Spec PyProof.Rows L2 G0 RK
noncomputable section
theorem leB2_le {p : P3} {b : Nat} (h : leB2 p b = true) : p.le b := by
  unfold leB2 at h
  simp only [Bool.and_eq_true, decide_eq_true_eq] at h
  exact ⟨h.1, h.2.1, h.2.2⟩
theorem ndB_nd : ∀ {ps : List P3}, ndB ps = true → ps.Nodup
  | [], _ => by simp
  | p :: ps, h => by
    unfold ndB at h
    rw [Bool.and_eq_true] at h
    rw [List.nodup_cons]
    exact ⟨by simpa using h.1, ndB_nd h.2⟩
structure PF (l : List Nat) (ps : List P3) : Prop where
  told : Told ps 8
  pos : 0 < ps.length
  len : ps.length ≤ 12
  sum : ps.length = l.sum
  one : ∀ p ∈ ps, p.z = 1
  nb : nbB ps = true
  lpos : 0 < l.length
  l9 : l.length ≤ 9
  t9 : topN l 0 ≤ 9
/-- what the counts of the points, or of these led, are -/
structure HF (l : List Nat) (qs : List P3) : Prop where
  en : EndOk qs (l.length - 1)
  tp : TopOk qs (topN l 0)
  row : rowI qs (l.length - 1) = l.map Int.ofNat
  cs : ∀ d, d < l.length → hN qs d = (l.take (d + 1)).sum
theorem hC_eq {ps : List P3} {d : Nat} (h : Told ps 8) (hz : ps.length ≤ 12) (hd : d ≤ 9) : hN ps d = hC ps d := ((cond_ok' (c := 8) (by decide) (by decide) hd (by omega) fun p hp => (h.pt p hp).2.2).bar.1).symm
theorem RF.facts {l : List Nat} (h : RF l) : PF l (stQ 0 l) := by
  have pf := h.pf
  unfold okA okL at pf
  simp only [Bool.and_eq_true, decide_eq_true_eq, List.all_eq_true] at pf
  obtain ⟨⟨a1, a2, a3, a4, a5, a6⟩, _, b1, b2, b3, _⟩ := pf
  refine ⟨⟨ndB_nd a4, fun p hp => ?_⟩, a1, a2, a3, fun p hp => (a5 p hp).2.1, a6, b1, b2, b3⟩
  obtain ⟨c1, c2, c3⟩ := a5 p hp
  exact ⟨⟨p.z, by simp [P3.list], by rw [c2]; decide⟩, c3, leB2_le c1⟩
theorem RF.counts {l : List Nat} (h : RF l) : HF l (stQ 0 l) := by
  have f := h.facts
  have pf := h.pf
  unfold okH okL at pf
  simp only [Bool.and_eq_true, decide_eq_true_eq, List.all_eq_true] at pf
  obtain ⟨_, ⟨h1, h2, h3⟩, _, _, _, g1, g2, g3, g4⟩ := pf
  have l9 := f.l9
  have t9 := f.t9
  have lp := f.lpos
  generalize hps : stQ 0 l = ps at *
  have pl : (psum 0 l).length = l.length := by rw [← h1]; simp
  have hn : ∀ d, d < l.length → hN ps d = (psum 0 l).getD d 0 := fun d hd => by
    rw [hC_eq f.told f.len (by omega), ← h1, List.getD_eq_getElem?_getD, List.getElem?_map, List.getElem?_range hd]
    rfl
  have hs : hL ps (l.length - 1) = (psum 0 l).map Int.ofNat := by
    unfold hL
    have e : l.length - 1 + 1 = l.length := by omega
    rw [e, ← h1, List.map_map]
    refine List.map_congr_left fun d hd => ?_
    have hd : d < l.length := by simpa using hd
    show ((hN ps d : Nat) : Int) = Int.ofNat (hC ps d)
    rw [hC_eq f.told f.len (by omega)]
    rfl
  refine ⟨⟨by omega, fun d hd => ?_, ?_⟩, ⟨t9, fun d hd => ?_, ?_⟩, ?_, fun d hd => ?_⟩
  · rw [hn d (by omega), f.sum]
    refine g1 _ ?_
    rw [List.getD_eq_getElem?_getD, List.getElem?_eq_getElem (by omega)]
    rw [List.mem_iff_getElem]
    exact ⟨d, by simp [pl]; omega, by simp⟩
  · rw [hn _ (by omega), f.sum, List.getD_eq_getElem?_getD]
    rw [List.getLast?_eq_getElem?, pl] at g2
    rw [g2]
    rfl
  · have := h2 d (by simpa using hd)
    rw [hC_eq f.told f.len (by omega)]
    simpa using this
  · rw [hC_eq f.told f.len t9]
    simpa using h3
  · unfold rowI
    rw [hs]
    exact g3
  · rw [hn d hd]
    exact g4 d (by simpa using hd)
theorem HF.led {l : List Nat} {ps : List P3} {T : M3} {b : Nat} (h : HF l ps) (hT : det3 T ≠ 0) (ht : Told ps b) : HF l (ps.map (ledP T)) := by
  have e : ∀ d, hN (ps.map (ledP T)) d = hN ps d := fun d => hN_led hT (fun p hp => (ht.pt p hp).1) d
  have el : (ps.map (ledP T)).length = ps.length := List.length_map _
  refine ⟨⟨h.en.le, fun d hd => by rw [e, el]; exact h.en.lt d hd, by rw [e, el]; exact h.en.eq⟩, ⟨h.tp.le, fun d hd => by rw [e]; exact h.tp.eq d hd, by rw [e]; exact h.tp.ne⟩, ?_, fun d hd => by rw [e]; exact h.cs d hd⟩
  rw [← h.row]
  unfold rowI hL
  simp only [e]
/-! ### the drawn row -/
theorem nD_eq (l : List Nat) : nD l = (l.map Int.ofNat).map D.int := by
  unfold nD
  rw [List.map_map]
  rfl
theorem intsD_map : ∀ l : List Int, intsD (l.map D.int) = some l
  | [] => rfl
  | x :: l => by
    show (intsD (l.map D.int)).map (x :: ·) = _
    rw [intsD_map l]
    rfl
theorem sum_ofNat : ∀ l : List Nat, (l.map Int.ofNat).sum = ((l.sum : Nat) : Int)
  | [] => rfl
  | x :: l => by
    rw [List.map_cons, List.sum_cons, List.sum_cons, sum_ofNat l]
    show (x : Int) + _ = _
    omega
theorem sum_nD (l : List Nat) : bSum [.lst (nD l)] = some (.val (.int (l.sum : Nat))) := by
  rw [nD_eq]
  show (intsD ((l.map Int.ofNat).map D.int)).bind (fun ns => rI' ns.sum) = _
  rw [intsD_map]
  show some (RV.val (D.int (l.map Int.ofNat).sum)) = _
  rw [sum_ofNat]
theorem len_nD (l : List Nat) : bLen [.lst (nD l)] = some (.val (.int (l.length : Nat))) := by
  show some (RV.val (D.int ((nD l).length : Nat))) = _
  unfold nD
  rw [List.length_map]
def roomI (l : List Nat) : Int := if (12 - (l.sum : Nat) : Int) < ((l.getLastD 0 : Nat) : Int) then 12 - (l.sum : Nat) else ((l.getLastD 0 : Nat) : Int)
def closB (l : List Nat) : Bool := decide (0 < l.length) && (decide (l.length ≤ 9) && (decide (roomI l ≤ 12) && (decide (roomI l < 1) || (l.length == 9 || (List.range (roomI l).toNat).all fun c => rowsL.contains (l ++ [c + 1])))))
theorem clos_all : rowsL.all closB = true := by decide +kernel
def rwB : M Flow := (sSeq (sAsg (mC bMin (mCons (mOp opIx (mPlF 4) (mUn opNeg (mVal (.int 1)))) (mCons (mOp opSub (mPlF 1) (mC bSum (mCons (mPlF 4) mNil))) mNil))) (gNF 5))
      (sSeq (sIf (mOrT (mB (mOp opLt (mPlF 5) (mVal (.int 1)))) (mB (mOp opEq (mC bLen (mCons (mPlF 4) mNil)) (mVal (.int 9))))) (sRet (mPlF 4)) sNx)
      (sExp (mMut opAppend 4 (mCons (mOp opAdd (mVal (.int 1)) (mCall 2 [true, false] F__law_draw (mCons (mPlF 0) (mCons (mPlF 5) mNil)))) mNil)))))
abbrev stK (a b : Int) (s2 s3 : Option Slot) (l : List Nat) (s5 : Option Slot) : Rho := [some (.par (potO a b)), some (.val (.int 12)), s2, s3, some (.own (.lst (nD l))), s5]
theorem rw_body {a b : Int} {s2 s3 s5 : Option Slot} {l : List Nat} (hp : PotOk a b) (hl : l ∈ rowsL) : ∃ (a' b' : Int) (s5' : Option Slot), PotOk a' b' ∧ ((∃ l' ∈ rowsL, rwB (stK a b s2 s3 l s5) = .ok .nx (stK a' b' s2 s3 l' s5')) ∨ ∃ ρ', rwB (stK a b s2 s3 l s5) = .ok (.rt (.own (.lst (nD l)))) (some (.par (potO a' b')) :: ρ')) := by
  have cl := List.all_eq_true.mp clos_all l hl
  unfold closB at cl
  simp only [Bool.and_eq_true, Bool.or_eq_true, decide_eq_true_eq, List.all_eq_true] at cl
  obtain ⟨c1, c9, c12, c2⟩ := cl
  have ixl : opIx (.lst (nD l)) (.int (-1)) = some (.val (.int (l.getLastD 0 : Nat))) := by
    rcases List.eq_nil_or_concat l with rfl | ⟨init, x, rfl⟩
    · cases c1
    · rw [List.concat_eq_append]
      unfold nD
      rw [List.map_append]
      have : (init ++ [x]).getLastD 0 = x := by simp
      rw [this]
      exact ix_last
  have m1 : mOp opIx (mPlF 4) (mUn opNeg (mVal (.int 1))) (stK a b s2 s3 l s5) = .ok (.val (.int (l.getLastD 0 : Nat))) (stK a b s2 s3 l s5) := op_ok (f := mPlF 4) (g := mUn opNeg (mVal (.int 1))) (r1 := .pl 4) rfl (r2 := .val (.int (-1))) rfl rfl rfl ixl
  have m2 : mOp opSub (mPlF 1) (mC bSum (mCons (mPlF 4) mNil)) (stK a b s2 s3 l s5) = .ok (.val (.int (12 - (l.sum : Nat)))) (stK a b s2 s3 l s5) := op_ok (f := mPlF 1) rfl (C_ok (c := bSum) (cons_ok (f := mPlF 4) (g := mNil) rfl rfl) rfl (sum_nD l)) rfl rfl rfl
  have s1 : sAsg (mC bMin (mCons (mOp opIx (mPlF 4) (mUn opNeg (mVal (.int 1)))) (mCons (mOp opSub (mPlF 1) (mC bSum (mCons (mPlF 4) mNil))) mNil))) (gNF 5) (stK a b s2 s3 l s5) = .ok .nx (stK a b s2 s3 l (some (.val (.int (roomI l))))) := asg_val (C_ok (c := bMin) (cons_ok m1 (cons_ok (g := mNil) m2 rfl)) rfl rfl) rfl
  have t1 : mB (mOp opLt (mPlF 5) (mVal (.int 1))) (stK a b s2 s3 l (some (.val (.int (roomI l))))) = .ok (decide (roomI l < 1)) (stK a b s2 s3 l (some (.val (.int (roomI l))))) := B_ok (op_ok (f := mPlF 5) (g := mVal (.int 1)) rfl rfl rfl rfl opLt_int)
  have t2 : mB (mOp opEq (mC bLen (mCons (mPlF 4) mNil)) (mVal (.int 9))) (stK a b s2 s3 l (some (.val (.int (roomI l))))) = .ok (decide (((l.length : Nat) : Int) = 9)) (stK a b s2 s3 l (some (.val (.int (roomI l))))) := B_ok (op_ok (C_ok (c := bLen) (cons_ok (f := mPlF 4) (g := mNil) rfl rfl) rfl (len_nD l)) (g := mVal (.int 9)) rfl rfl rfl opEq_int)
  have rt : sRet (mPlF 4) (stK a b s2 s3 l (some (.val (.int (roomI l))))) = .ok (.rt (.own (.lst (nD l)))) [some (.par (potO a b)), some (.val (.int 12)), s2, s3, none, some (.val (.int (roomI l)))] := rfl
  by_cases z1 : roomI l < 1
  · rw [decide_eq_true z1] at t1
    exact ⟨a, b, none, hp, .inr ⟨_, seq_nx s1 (seq_rt (if_ok (orT_t t1) rt))⟩⟩
  · rw [decide_eq_false z1] at t1
    by_cases z2 : ((l.length : Nat) : Int) = 9
    · rw [decide_eq_true z2] at t2
      exact ⟨a, b, none, hp, .inr ⟨_, seq_nx s1 (seq_rt (if_ok (orT_f t1 t2) rt))⟩⟩
    · rw [decide_eq_false z2] at t2
      have c3 := (c2.resolve_left z1).resolve_left (by simp; omega)
      have er : ((roomI l).toNat : Int) = roomI l := by omega
      obtain ⟨d, a', b', p', hd, e⟩ := drE (n := (roomI l).toNat) (f := mPlF 5) (tl := [some (.val (.int 12)), s2, s3, some (.own (.lst (nD l))), some (.val (.int (roomI l)))]) hp (by omega) (by omega) (fun a b => by rw [er]; rfl)
      have m := c3 d (by simpa using hd)
      have hm : l ++ [d + 1] ∈ rowsL := by simpa using m
      have e2 : mOp opAdd (mVal (.int 1)) (mCall 2 [true, false] F__law_draw (mCons (mPlF 0) (mCons (mPlF 5) mNil))) (stK a b s2 s3 l (some (.val (.int (roomI l))))) = .ok (.val (.int ((d + 1 : Nat) : Int))) (stK a' b' s2 s3 l (some (.val (.int (roomI l))))) := op_ok (f := mVal (.int 1)) rfl e rfl rfl (by show some (RV.val (D.int (1 + (d : Int)))) = _; congr 3; omega)
      have ap : mMut opAppend 4 (mCons (mOp opAdd (mVal (.int 1)) (mCall 2 [true, false] F__law_draw (mCons (mPlF 0) (mCons (mPlF 5) mNil)))) mNil) (stK a b s2 s3 l (some (.val (.int (roomI l))))) = .ok (.val .non) (stK a' b' s2 s3 (l ++ [d + 1]) (some (.val (.int (roomI l))))) := by
        unfold mMut
        rw [if_pos (by rfl), bind_ok (cons_ok (g := mNil) e2 rfl), bind_ok (m := settle [hold (RV.val (D.int ((d + 1 : Nat) : Int)))]) (a := [D.int ((d + 1 : Nat) : Int)]) (ρ1 := stK a' b' s2 s3 l (some (.val (.int (roomI l))))) rfl]
        have oa : opAppend (.lst (nD l)) [.int ((d + 1 : Nat) : Int)] = some (.lst (nD (l ++ [d + 1])), .non) := by
          show (if decide ((nD l).length < sizeLine) = true then some (Ob.lst (nD l ++ [D.int ((d + 1 : Nat) : Int)]), D.non) else none) = _
          rw [if_pos (decide_eq_true (by unfold nD; rw [List.length_map]; exact Nat.lt_of_le_of_lt c9 (by decide)))]
          unfold nD
          rw [List.map_append]
          rfl
        show (match opAppend (.lst (nD l)) [.int ((d + 1 : Nat) : Int)] with
          | some (o', x) => Res.ok (RV.val x) ((stK a' b' s2 s3 l (some (.val (.int (roomI l))))).set 4 (some (.own o')))
          | none => .bad) = _
        rw [oa]
        rfl
      exact ⟨a', b', _, p', .inl ⟨l ++ [d + 1], hm, seq_nx s1 (seq_nx (if_ok (orT_f t1 t2) rfl) (exp_ok ap))⟩⟩
theorem rw_loop {s2 : Option Slot} : ∀ (ds : List D) (a b : Int) (s3 s5 : Option Slot) (l : List Nat), PotOk a b → l ∈ rowsL → ∃ (a' b' : Int) (l' : List Nat), PotOk a' b' ∧ l' ∈ rowsL ∧ ((∃ s3' s5', forL (gNF 3) rwB ds (stK a b s2 s3 l s5) = .ok .nx (stK a' b' s2 s3' l' s5')) ∨ ∃ ρ', forL (gNF 3) rwB ds (stK a b s2 s3 l s5) = .ok (.rt (.own (.lst (nD l')))) (some (.par (potO a' b')) :: ρ'))
  | [], a, b, s3, s5, l, hp, hl => ⟨a, b, l, hp, hl, .inl ⟨s3, s5, rfl⟩⟩
  | d :: ds, a, b, s3, s5, l, hp, hl => by
    obtain ⟨a1, b1, s5', p1, ⟨l1, h1, e1⟩ | ⟨ρ', e1⟩⟩ := rw_body (s2 := s2) (s3 := some (.val d)) (s5 := s5) hp hl
    · obtain ⟨a2, b2, l2, p2, h2, ⟨t3, t5, e2⟩ | ⟨ρ', e2⟩⟩ := rw_loop ds a1 b1 (some (.val d)) s5' l1 p1 h1
      · refine ⟨a2, b2, l2, p2, h2, .inl ⟨t3, t5, ?_⟩⟩
        rw [for_cons (ρ1 := stK a b s2 (some (.val d)) l s5) rfl e1, e2]
      · refine ⟨a2, b2, l2, p2, h2, .inr ⟨ρ', ?_⟩⟩
        rw [for_cons (ρ1 := stK a b s2 (some (.val d)) l s5) rfl e1, e2]
    · exact ⟨a1, b1, l, p1, hl, .inr ⟨ρ', for_rt (ρ1 := stK a b s2 (some (.val d)) l s5) rfl e1⟩⟩
def riB : M Flow := sIf (mB (mOp opGt (mOp opFdiv (mOp opMul (mPlF 2) (mOp opAdd (mPlF 2) (mVal (.int 1)))) (mVal (.int 2))) (mPlF 1))) (sAsg (mOp opSub (mPlF 2) (mVal (.int 1))) (gNF 2)) sNx
theorem rise_ok (o : Ob) : ∀ d : Nat, d < 6 → ∃ r : Nat, (1 ≤ r ∧ r ≤ 4) ∧ sFor (mRng1 (mCons (mVal (.int 6)) mNil)) (gNF 3) riB [some (.par o), some (.val (.int 12)), some (.val (.int ((1 + d : Nat) : Int))), none, none, none] = .ok .nx [some (.par o), some (.val (.int 12)), some (.val (.int (r : Nat))), some (.val (.int 5)), none, none]
  | 0, _ => ⟨1, by decide, by kernel_rfl⟩
  | 1, _ => ⟨2, by decide, by kernel_rfl⟩
  | 2, _ => ⟨3, by decide, by kernel_rfl⟩
  | 3, _ => ⟨4, by decide, by kernel_rfl⟩
  | 4, _ => ⟨4, by decide, by kernel_rfl⟩
  | 5, _ => ⟨4, by decide, by kernel_rfl⟩
  | n + 6, h => absurd h (by omega)
theorem first_ok (o : Ob) : ∀ r : Nat, 1 ≤ r ∧ r ≤ 4 → ∃ l ∈ rowsL, sAsg (mC bList (mCons (mC bRange (mCons (mVal (.int 1)) (mCons (mOp opAdd (mPlF 2) (mVal (.int 1))) mNil))) mNil)) (gNF 4) [some (.par o), some (.val (.int 12)), some (.val (.int (r : Nat))), some (.val (.int 5)), none, none] = .ok .nx [some (.par o), some (.val (.int 12)), some (.val (.int (r : Nat))), some (.val (.int 5)), some (.own (.lst (nD l))), none]
  | 0, h => absurd h.1 (by decide)
  | 1, _ => ⟨[1], by decide, by kernel_rfl⟩
  | 2, _ => ⟨[1, 2], by decide, by kernel_rfl⟩
  | 3, _ => ⟨[1, 2, 3], by decide, by kernel_rfl⟩
  | 4, _ => ⟨[1, 2, 3, 4], by decide, by kernel_rfl⟩
  | n + 5, h => absurd h.2 (by omega)
theorem pt_row {a b : Int} (hp : PotOk a b) : ∃ (l : List Nat) (a' b' : Int) (ρ' : Rho), PotOk a' b' ∧ l ∈ rowsL ∧ F__law_row [.par (potO a b), .val (.int 12)] = .ok (.own (.lst (nD l))) (some (.par (potO a' b')) :: ρ') := by
  obtain ⟨d, a1, b1, p1, hd, e1⟩ := dr (n := 6) (tl := [some (.val (.int 12)), none, none, none, none]) hp (by decide) (by decide)
  have s1 : sAsg (mOp opAdd (mVal (.int 1)) (mCall 2 [true, false] F__law_draw (mCons (mPlF 0) (mCons (mVal (.int 6)) mNil)))) (gNF 2) [some (.par (potO a b)), some (.val (.int 12)), none, none, none, none] = .ok .nx [some (.par (potO a1 b1)), some (.val (.int 12)), some (.val (.int ((1 + d : Nat) : Int))), none, none, none] := asg_val (op_ok (f := mVal (.int 1)) rfl e1 rfl rfl rfl) rfl
  obtain ⟨r, hr, s2⟩ := rise_ok (potO a1 b1) d (by omega)
  obtain ⟨l0, h0, s3⟩ := first_ok (potO a1 b1) r hr
  obtain ⟨n, a2, b2, p2, hn, e2⟩ := dr (n := 8) (tl := [some (.val (.int 12)), some (.val (.int (r : Nat))), some (.val (.int 5)), some (.own (.lst (nD l0))), none]) p1 (by decide) (by decide)
  have it := rng1_ok (w := n) (cons_ok (g := mNil) e2 rfl) (by omega)
  obtain ⟨a3, b3, l', p3, h3, ⟨t3, t5, e3⟩ | ⟨ρ', e3⟩⟩ := rw_loop (s2 := some (.val (.int (r : Nat)))) ((List.range' 0 n).map fun i => .int (0 + (i : Nat))) a2 b2 (some (.val (.int 5))) none l0 p2 h0
  · exact ⟨l', a3, b3, _, p3, h3, fnBody_rt (seq_nx s1 (seq_nx s2 (seq_nx s3 (seq_nx (for_ok it e3) (ret_ok (f := mPlF 4) (r := .pl 4) rfl rfl)))))⟩
  · exact ⟨l', a3, b3, _, p3, h3, fnBody_rt (seq_nx s1 (seq_nx s2 (seq_nx s3 (seq_rt (for_ok it e3)))))⟩
end
end VE

set_option exponentiation.threshold 10000
namespace VE
open PySem PySem.Spec PyProof.Rows L2 G0 RK
noncomputable section
theorem shown_all : (rowsL.all fun l => (okR (.lst (nD l)) && okR (.tup (nD l))) && (PyData.strOk (py (.lst (nD l))).shown && PyData.strOk (py (.tup (nD l))).shown)) = true := by decide +kernel
theorem okR_row {l : List Nat} (h : l ∈ rowsL) (t : Bool) : okR (sq t (nD l)) = true := by
  have := List.all_eq_true.mp shown_all l h
  simp only [Bool.and_eq_true] at this
  cases t
  · exact this.1.2
  · exact this.1.1
theorem sk_row {l : List Nat} (h : l ∈ rowsL) (t : Bool) : Sk (py (sq t (nD l))).shown := by
  have := List.all_eq_true.mp shown_all l h
  simp only [Bool.and_eq_true] at this
  cases t
  · exact this.2.2
  · exact this.2.1
theorem RF.stair {l : List Nat} (h : RF l) (t : Bool) : Ret F_stair [.val (sq t (nD l))] (.own (.ins "Spots" (spF (stQ 0 l)))) := by
  cases t
  · exact h.sb
  · exact h.sa
theorem pt_passed {a b : Int} {l : List Nat} (hp : PotOk a b) : ∃ (t : Bool) (r : RV) (a' b' : Int) (ρ' : Rho), PotOk a' b' ∧ Is r (sq t (nD l)) ∧ F__law_passed [.par (potO a b), .val (.lst (nD l))] = .ok r (some (.par (potO a' b')) :: ρ') := by
  obtain ⟨d, a1, b1, p1, hd, e1⟩ := dr (n := 2) (tl := [some (.val (.lst (nD l)))]) hp (by decide) (by decide)
  have c : mB (mOp opEq (mCall 2 [true, false] F__law_draw (mCons (mPlF 0) (mCons (mVal (.int 2)) mNil))) (mVal (.int 0))) [some (.par (potO a b)), some (.val (.lst (nD l)))] = .ok (decide (((d : Nat) : Int) = 0)) [some (.par (potO a1 b1)), some (.val (.lst (nD l)))] := B_ok (op_ok e1 (g := mVal (.int 0)) rfl rfl rfl opEq_int)
  by_cases z : ((d : Nat) : Int) = 0
  · rw [decide_eq_true z] at c
    exact ⟨false, .val (.tup (nD l)), a1, b1, _, p1, .inl rfl, fnBody_rt (ret_ok (mIf_t c (C_ok (c := bTuple) (cons_ok (f := mPlF 1) (g := mNil) rfl rfl) rfl rfl)) rfl)⟩
  · rw [decide_eq_false z] at c
    exact ⟨true, .own (.lst (nD l)), a1, b1, _, p1, .inr ⟨nD l, rfl, rfl⟩, fnBody_rt (ret_ok (mIf_f c (C_ok (c := bList) (cons_ok (f := mPlF 1) (g := mNil) rfl rfl) rfl rfl)) rfl)⟩
abbrev st5 (o : Ob) (s1 s2 s3 s4 s5 s6 s7 s8 s9 s10 s11 s12 : Option Slot) : Rho := [some (.par o), s1, s2, s3, s4, s5, s6, s7, s8, s9, s10, s11, s12]
section
variable {o : Ob} {l : List Nat} {ps : List P3} {s1 s2 s3 s4 s6 s7 s8 s9 s10 s11 s12 : Option Slot}
def nbBd : M Flow := (sIf (mOrT (mAndT (mB (mOp opGt (mPlF 6) (mVal (.int 0)))) (mB (mOp opNotIn (mTup (mCons (mOp opSub (mPlF 6) (mVal (.int 1))) (mCons (mPlF 7) (mCons (mVal (.int 1)) mNil)))) (mPlF 5)))) (mAndT (mB (mOp opGt (mPlF 7) (mVal (.int 0)))) (mB (mOp opNotIn (mTup (mCons (mPlF 6) (mCons (mOp opSub (mPlF 7) (mVal (.int 1))) (mCons (mVal (.int 1)) mNil)))) (mPlF 5))))) (sRet (mVal (.bl false))) sNx)
theorem andT_f {f g : M Bool} {ρ ρ1 : Rho} (h : f ρ = .ok false ρ1) : mAndT f g ρ = .ok false ρ1 := by
  unfold mAndT
  rw [bind_ok h]
  rfl
theorem andT_t {f g : M Bool} {ρ ρ1 : Rho} {r : Res Bool} (h : f ρ = .ok true ρ1) (h2 : g ρ1 = r) : mAndT f g ρ = r := by
  unfold mAndT
  rw [bind_ok h]
  exact h2
theorem nb_body {p : P3} (h1 : 0 < p.x → (⟨p.x - 1, p.y, 1⟩ : P3) ∈ ps) (h2 : 0 < p.y → (⟨p.x, p.y - 1, 1⟩ : P3) ∈ ps) : nbBd (st5 o s1 s2 s3 s4 (some (.val (.lst (ps.map (v3 false))))) (some (.val (.int p.x))) (some (.val (.int p.y))) (some (.val (.int p.z))) s9 s10 s11 s12) = .ok .nx (st5 o s1 s2 s3 s4 (some (.val (.lst (ps.map (v3 false))))) (some (.val (.int p.x))) (some (.val (.int p.y))) (some (.val (.int p.z))) s9 s10 s11 s12) := by
  have c1 := opNotIn_v3 (q := ⟨p.x - 1, p.y, 1⟩) (acc := ps)
  have c2 := opNotIn_v3 (q := ⟨p.x, p.y - 1, 1⟩) (acc := ps)
  generalize hX : D.lst (ps.map (v3 false)) = X at *
  let S := st5 o s1 s2 s3 s4 (some (.val X)) (some (.val (.int p.x))) (some (.val (.int p.y))) (some (.val (.int p.z))) s9 s10 s11 s12
  have g1 : mB (mOp opGt (mPlF 6) (mVal (.int 0))) S = .ok (decide (0 < p.x)) S := B_ok (op_ok (f := mPlF 6) (g := mVal (.int 0)) rfl rfl rfl rfl rfl)
  have g2 : mB (mOp opGt (mPlF 7) (mVal (.int 0))) S = .ok (decide (0 < p.y)) S := B_ok (op_ok (f := mPlF 7) (g := mVal (.int 0)) rfl rfl rfl rfl rfl)
  have n1 : mB (mOp opNotIn (mTup (mCons (mOp opSub (mPlF 6) (mVal (.int 1))) (mCons (mPlF 7) (mCons (mVal (.int 1)) mNil)))) (mPlF 5)) S = .ok (!decide ((⟨p.x - 1, p.y, 1⟩ : P3) ∈ ps)) S := B_ok (op_ok (r1 := .val (v3 false ⟨p.x - 1, p.y, 1⟩)) rfl (g := mPlF 5) rfl rfl rfl c1)
  have n2 : mB (mOp opNotIn (mTup (mCons (mPlF 6) (mCons (mOp opSub (mPlF 7) (mVal (.int 1))) (mCons (mVal (.int 1)) mNil)))) (mPlF 5)) S = .ok (!decide ((⟨p.x, p.y - 1, 1⟩ : P3) ∈ ps)) S := B_ok (op_ok (r1 := .val (v3 false ⟨p.x, p.y - 1, 1⟩)) rfl (g := mPlF 5) rfl rfl rfl c2)
  have a1 : mAndT (mB (mOp opGt (mPlF 6) (mVal (.int 0)))) (mB (mOp opNotIn (mTup (mCons (mOp opSub (mPlF 6) (mVal (.int 1))) (mCons (mPlF 7) (mCons (mVal (.int 1)) mNil)))) (mPlF 5))) S = .ok false S := by
    by_cases z : 0 < p.x
    · rw [decide_eq_true z] at g1
      rw [decide_eq_true (h1 z)] at n1
      exact andT_t g1 n1
    · rw [decide_eq_false z] at g1
      exact andT_f g1
  have a2 : mAndT (mB (mOp opGt (mPlF 7) (mVal (.int 0)))) (mB (mOp opNotIn (mTup (mCons (mPlF 6) (mCons (mOp opSub (mPlF 7) (mVal (.int 1))) (mCons (mVal (.int 1)) mNil)))) (mPlF 5))) S = .ok false S := by
    by_cases z : 0 < p.y
    · rw [decide_eq_true z] at g2
      rw [decide_eq_true (h2 z)] at n2
      exact andT_t g2 n2
    · rw [decide_eq_false z] at g2
      exact andT_f g2
  exact if_ok (orT_f a1 a2) rfl
theorem nb_loop : ∀ (qs : List P3) (s6 s7 s8 : Option Slot), (∀ p ∈ qs, (0 < p.x → (⟨p.x - 1, p.y, 1⟩ : P3) ∈ ps) ∧ (0 < p.y → (⟨p.x, p.y - 1, 1⟩ : P3) ∈ ps)) → ∃ s6' s7' s8', forL (gT 3 (gCons (gNF 6) (gCons (gNF 7) (gCons (gNF 8) gNil)))) nbBd (qs.map (v3 false)) (st5 o s1 s2 s3 s4 (some (.val (.lst (ps.map (v3 false))))) s6 s7 s8 s9 s10 s11 s12) = .ok .nx (st5 o s1 s2 s3 s4 (some (.val (.lst (ps.map (v3 false))))) s6' s7' s8' s9 s10 s11 s12)
  | [], s6, s7, s8, _ => ⟨s6, s7, s8, rfl⟩
  | p :: qs, s6, s7, s8, h => by
    obtain ⟨h1, h2⟩ := h p (List.mem_cons_self ..)
    have b := nb_body (o := o) (s1 := s1) (s2 := s2) (s3 := s3) (s4 := s4) (s9 := s9) (s10 := s10) (s11 := s11) (s12 := s12) h1 h2
    obtain ⟨t6, t7, t8, ih⟩ := nb_loop qs (some (.val (.int p.x))) (some (.val (.int p.y))) (some (.val (.int p.z))) fun q hq => h q (List.mem_cons_of_mem _ hq)
    refine ⟨t6, t7, t8, ?_⟩
    rw [List.map_cons, for_cons (ρ1 := st5 o s1 s2 s3 s4 (some (.val (.lst (ps.map (v3 false))))) (some (.val (.int p.x))) (some (.val (.int p.y))) (some (.val (.int p.z))) s9 s10 s11 s12) rfl b, ih]
def rwBd : M Flow := (sSeq (sAsg (mCall 1 [false] F_row (mCons (mPlF 10) mNil)) (gNF 11))
      (sIf (mOrT (mB (mOp opNe (mPlF 11) (mPlF 1))) (mOrT (mB (mOp opNotB (mCall 1 [false] F_is_row (mCons (mPlF 11) mNil)) (mVal (.bl true)))) (mB (mOp opNe (mCall 1 [false] F_top (mCons (mPlF 10) mNil)) (mCall 1 [false] F__law_top (mCons (mPlF 1) mNil)))))) (sRet (mVal (.bl false))) sNx))
theorem row_body {qs : List P3} {b : Nat} {s5 : Option Slot} (hl : RF l) (h : HF l qs) (ht : Told qs b) (hb : b ≤ 1000000) (h0 : 0 < qs.length) (hz : qs.length ≤ 24) : rwBd (st5 o (some (.val (.lst (nD l)))) s2 s3 s4 s5 s6 s7 s8 s9 (some (.val (spD qs))) s11 s12) = .ok .nx (st5 o (some (.val (.lst (nD l)))) s2 s3 s4 s5 s6 s7 s8 s9 (some (.val (spD qs))) (some (.val (.lst (nD l)))) s12) := by
  obtain ⟨ρ1, e1⟩ := (ret_row (ht.le38 hb) h0 hz h.en).ex
  obtain ⟨ρ2, e2⟩ := (Ret.ex (F := F_is_row) hl.is)
  obtain ⟨ρ3, e3⟩ := (ret_top (ht.le38 hb) h0 hz h.tp).ex
  obtain ⟨ρ4, e4⟩ := (Ret.ex (F := F__law_top) hl.lt)
  rw [h.row, ← nD_eq] at e1
  have s1' : sAsg (mCall 1 [false] F_row (mCons (mPlF 10) mNil)) (gNF 11) (st5 o (some (.val (.lst (nD l)))) s2 s3 s4 s5 s6 s7 s8 s9 (some (.val (spD qs))) s11 s12) = .ok .nx (st5 o (some (.val (.lst (nD l)))) s2 s3 s4 s5 s6 s7 s8 s9 (some (.val (spD qs))) (some (.own (.lst (nD l)))) s12) := asg_val (call_gen (ds := [spD qs]) rfl rfl e1 rfl rfl) rfl
  have q0 : eqQ (.lst (nD l)) (.lst (nD l)) = some true := by rw [nD_eq]; exact eqQ_ints _
  have n1 : mB (mOp opNe (mPlF 11) (mPlF 1)) (st5 o (some (.val (.lst (nD l)))) s2 s3 s4 s5 s6 s7 s8 s9 (some (.val (spD qs))) (some (.own (.lst (nD l)))) s12) = .ok false (st5 o (some (.val (.lst (nD l)))) s2 s3 s4 s5 s6 s7 s8 s9 (some (.val (spD qs))) (some (.own (.lst (nD l)))) s12) := B_ok (op_ok (f := mPlF 11) (g := mPlF 1) (r1 := .pl 11) rfl rfl rfl rfl (ne_of q0))
  have n2 : mB (mOp opNotB (mCall 1 [false] F_is_row (mCons (mPlF 11) mNil)) (mVal (.bl true))) (st5 o (some (.val (.lst (nD l)))) s2 s3 s4 s5 s6 s7 s8 s9 (some (.val (spD qs))) (some (.own (.lst (nD l)))) s12) = .ok false (st5 o (some (.val (.lst (nD l)))) s2 s3 s4 s5 s6 s7 s8 s9 (some (.val (spD qs))) (some (.val (.lst (nD l)))) s12) :=
    B_ok (op_ok (call_gen (ds := [.lst (nD l)]) (cons_ok (f := mPlF 11) (r := .pl 11) (g := mNil) rfl rfl) rfl e2 rfl rfl) (g := mVal (.bl true)) rfl rfl rfl rfl)
  have n3 : mB (mOp opNe (mCall 1 [false] F_top (mCons (mPlF 10) mNil)) (mCall 1 [false] F__law_top (mCons (mPlF 1) mNil))) (st5 o (some (.val (.lst (nD l)))) s2 s3 s4 s5 s6 s7 s8 s9 (some (.val (spD qs))) (some (.val (.lst (nD l)))) s12) = .ok false (st5 o (some (.val (.lst (nD l)))) s2 s3 s4 s5 s6 s7 s8 s9 (some (.val (spD qs))) (some (.val (.lst (nD l)))) s12) := by
    refine B_ok (op_ok (call_gen (ds := [spD qs]) (cons_ok (f := mPlF 10) (g := mNil) rfl rfl) rfl e3 rfl rfl) (call_gen (ds := [.lst (nD l)]) (cons_ok (f := mPlF 1) (g := mNil) rfl rfl) rfl e4 rfl rfl) rfl rfl ?_)
    rw [opNe_int, decide_eq_true rfl]
    rfl
  exact seq_nx s1' (if_ok (orT_f n1 (orT_f n2 n3)) rfl)
end
def T52 : List M3 := [one3, ⟨⟨0, 1, 1⟩, ⟨1, 0, 1⟩, ⟨0, 0, 1⟩⟩, ⟨⟨1, 1, 0⟩, ⟨0, 1, 2⟩, ⟨1, 0, 1⟩⟩]
theorem T52_ok : ∀ T ∈ T52, det3 T ≠ 0 ∧ T.le 2 := by
  intro T h
  simp only [T52, List.mem_cons, List.not_mem_nil, or_false] at h
  rcases h with rfl | rfl | rfl <;> exact ⟨by decide, ⟨⟨by decide, by decide, by decide⟩, ⟨by decide, by decide, by decide⟩, ⟨by decide, by decide, by decide⟩⟩⟩
theorem right_true {a b : Int} (hp : PotOk a b) : ∃ ρ, F__law_right [.par (potO a b)] = .ok (.val (.bl true)) ρ := by
  obtain ⟨l, a1, b1, ρ1, p1, hl, e1⟩ := pt_row hp
  have rf := rowsF l hl
  have pf := rf.facts
  have hf := rf.counts
  have z12 := pf.len
  obtain ⟨t, r, a2, b2, ρ2, p2, hr, e2⟩ := pt_passed (l := l) p1
  have s1 : sAsg (mCall 2 [true, false] F__law_row (mCons (mPlF 0) (mCons (mVal (.int 12)) mNil))) (gNF 1) (st5 (potO a b) none none none none none none none none none none none none) = .ok .nx (st5 (potO a1 b1) (some (.own (.lst (nD l)))) none none none none none none none none none none none) :=
    asg_val (callP (o := potO a b) (o' := potO a1 b1) (ds := [.int 12]) (ρ2 := st5 (potO a b) none none none none none none none none none none none none) (cons_ok (f := mPlF 0) (r := .pl 0) rfl (cons_ok (f := mVal (.int 12)) (g := mNil) rfl rfl)) rfl rfl e1 rfl rfl) rfl
  have c2 : mCall 2 [true, false] F__law_passed (mCons (mPlF 0) (mCons (mPlF 1) mNil)) (st5 (potO a1 b1) (some (.own (.lst (nD l)))) none none none none none none none none none none none) = .ok r (st5 (potO a2 b2) (some (.val (.lst (nD l)))) none none none none none none none none none none none) :=
    callP (o := potO a1 b1) (o' := potO a2 b2) (ds := [.lst (nD l)]) (ρ2 := st5 (potO a1 b1) (some (.val (.lst (nD l)))) none none none none none none none none none none none) (cons_ok (f := mPlF 0) (r := .pl 0) rfl (cons_ok (f := mPlF 1) (r := .pl 1) (g := mNil) rfl rfl)) rfl rfl e2 hr.np rfl
  obtain ⟨ρ3, e3⟩ := (rf.stair t).ex
  generalize hps : stQ 0 l = ps at *
  have rp : bRepr [sq t (nD l)] = some (.val (.str (py (sq t (nD l))).shown)) := repr_ok (okR_row hl t)
  generalize hS : (py (sq t (nD l))).shown = S at rp
  have s23 : ∃ s2, sAsg (mCall 2 [true, false] F__law_passed (mCons (mPlF 0) (mCons (mPlF 1) mNil))) (gNF 2) (st5 (potO a1 b1) (some (.own (.lst (nD l)))) none none none none none none none none none none none) = .ok .nx (st5 (potO a2 b2) (some (.val (.lst (nD l)))) s2 none none none none none none none none none none) ∧
      sParO [3, 4] (mConsO (mC bRepr (mCons (mPlF 2) mNil)) (mConsO (mCall 1 [false] F_stair (mCons (mPlF 2) mNil)) mNil)) (st5 (potO a2 b2) (some (.val (.lst (nD l)))) s2 none none none none none none none none none none) = .ok .nx (st5 (potO a2 b2) (some (.val (.lst (nD l)))) (some (.val (sq t (nD l)))) (some (.val (.str S))) (spO ps) none none none none none none none none) := by
    rcases hr with rfl | ⟨xs, hx, rfl⟩
    · refine ⟨some (.val (sq t (nD l))), asg_val c2 rfl, ?_⟩
      have k1 : mC bRepr (mCons (mPlF 2) mNil) (st5 (potO a2 b2) (some (.val (.lst (nD l)))) (some (.val (sq t (nD l)))) none none none none none none none none none none) = .ok (.val (.str S)) (st5 (potO a2 b2) (some (.val (.lst (nD l)))) (some (.val (sq t (nD l)))) none none none none none none none none none none) := C_ok (c := bRepr) (cons_ok (f := mPlF 2) (g := mNil) rfl rfl) rfl rp
      have k2 : mCall 1 [false] F_stair (mCons (mPlF 2) mNil) (st5 (potO a2 b2) (some (.val (.lst (nD l)))) (some (.val (sq t (nD l)))) none none none none none none none none none none) = .ok (.own (.ins "Spots" (spF ps))) (st5 (potO a2 b2) (some (.val (.lst (nD l)))) (some (.val (sq t (nD l)))) none none none none none none none none none none) := call_gen (ds := [sq t (nD l)]) (cons_ok (f := mPlF 2) (g := mNil) rfl rfl) rfl e3 rfl rfl
      exact parO_ok (is := [3, 4]) (consO_val k1 (consO_own k2 rfl)) rfl
    · refine ⟨some (.own (.lst xs)), asg_val c2 rfl, ?_⟩
      rw [hx] at rp e3 ⊢
      have k1 : mC bRepr (mCons (mPlF 2) mNil) (st5 (potO a2 b2) (some (.val (.lst (nD l)))) (some (.own (.lst xs))) none none none none none none none none none none) = .ok (.val (.str S)) (st5 (potO a2 b2) (some (.val (.lst (nD l)))) (some (.own (.lst xs))) none none none none none none none none none none) := C_ok (c := bRepr) (cons_ok (f := mPlF 2) (r := .pl 2) (g := mNil) rfl rfl) rfl rp
      have k2 : mCall 1 [false] F_stair (mCons (mPlF 2) mNil) (st5 (potO a2 b2) (some (.val (.lst (nD l)))) (some (.own (.lst xs))) none none none none none none none none none none) = .ok (.own (.ins "Spots" (spF ps))) (st5 (potO a2 b2) (some (.val (.lst (nD l)))) (some (.val (.lst xs))) none none none none none none none none none none) := call_gen (ds := [.lst xs]) (cons_ok (f := mPlF 2) (r := .pl 2) (g := mNil) rfl rfl) rfl e3 rfl rfl
      exact parO_ok (is := [3, 4]) (consO_val k1 (consO_own k2 rfl)) rfl
  obtain ⟨s2, s2', s3⟩ := s23
  obtain ⟨ρ4, e4⟩ := Ret.ex (F := F__law_points) rf.lp
  rw [hps] at e4
  have s4 : sAsg (mCall 1 [false] F__law_points (mCons (mPlF 1) mNil)) (gNF 5) (st5 (potO a2 b2) (some (.val (.lst (nD l)))) (some (.val (sq t (nD l)))) (some (.val (.str S))) (spO ps) none none none none none none none none) = .ok .nx (st5 (potO a2 b2) (some (.val (.lst (nD l)))) (some (.val (sq t (nD l)))) (some (.val (.str S))) (spO ps) (some (.own (.lst (ps.map (v3 false))))) none none none none none none none) := asg_val (call_gen (ds := [.lst (nD l)]) rfl rfl e4 rfl rfl) rfl
  have u1 : mNotT (mT (mC (bIsiC "Spots") (mCons (mPlF 4) (mCons (mVal (.cls "Spots")) mNil)))) (st5 (potO a2 b2) (some (.val (.lst (nD l)))) (some (.val (sq t (nD l)))) (some (.val (.str S))) (spO ps) (some (.own (.lst (ps.map (v3 false))))) none none none none none none none) = .ok false (st5 (potO a2 b2) (some (.val (.lst (nD l)))) (some (.val (sq t (nD l)))) (some (.val (.str S))) (spO ps) (some (.own (.lst (ps.map (v3 false))))) none none none none none none none) :=
    notT_ok (b := true) (T_ok (C_ok (c := bIsiC "Spots") (cons_ok (f := mPlF 4) (r := .pl 4) rfl (cons_ok (f := mVal (.cls "Spots")) (g := mNil) rfl rfl)) rfl isC))
  have u2 : mB (mOp opNe (mMeth "Spots" "points" 1 F_Spots_points (mPlF 4) mNil) (mPlF 5)) (st5 (potO a2 b2) (some (.val (.lst (nD l)))) (some (.val (sq t (nD l)))) (some (.val (.str S))) (spO ps) (some (.own (.lst (ps.map (v3 false))))) none none none none none none none) = .ok false (st5 (potO a2 b2) (some (.val (.lst (nD l)))) (some (.val (sq t (nD l)))) (some (.val (.str S))) (spV' ps) (some (.own (.lst (ps.map (v3 false))))) none none none none none none none) :=
    B_ok (op_ok (pts_ok (ps := ps) (f := mPlF 4) (r := .pl 4) rfl rfl rfl) (g := mPlF 5) (r2 := .pl 5) rfl rfl rfl (ne_of (by show eqQ (.lst (ps.map (v3 false))) (.lst (ps.map (v3 false))) = some true; rw [eqQ_pts, decide_eq_true rfl])))
  have u3 : mB (mOp opNe (mProp "Spots" "size" F_Spots_size (mPlF 4)) (mC bSum (mCons (mPlF 1) mNil))) (st5 (potO a2 b2) (some (.val (.lst (nD l)))) (some (.val (sq t (nD l)))) (some (.val (.str S))) (spV' ps) (some (.own (.lst (ps.map (v3 false))))) none none none none none none none) = .ok false (st5 (potO a2 b2) (some (.val (.lst (nD l)))) (some (.val (sq t (nD l)))) (some (.val (.str S))) (spV' ps) (some (.own (.lst (ps.map (v3 false))))) none none none none none none none) := by
    refine B_ok (op_ok (size_ok (ps := ps) (f := mPlF 4) rfl rfl) (C_ok (c := bSum) (cons_ok (f := mPlF 1) (g := mNil) rfl rfl) rfl (sum_nD l)) rfl rfl ?_)
    rw [opNe_int, pf.sum, decide_eq_true rfl]
    rfl
  have u4 : mB (mOp (opNeC "Spots" F_Spots___eq__) (mCallK 1 [0] [false] F_stair (mCons (mPlF 2) mNil)) (mPlF 4)) (st5 (potO a2 b2) (some (.val (.lst (nD l)))) (some (.val (sq t (nD l)))) (some (.val (.str S))) (spV' ps) (some (.own (.lst (ps.map (v3 false))))) none none none none none none none) = .ok false (st5 (potO a2 b2) (some (.val (.lst (nD l)))) (some (.val (sq t (nD l)))) (some (.val (.str S))) (spV' ps) (some (.own (.lst (ps.map (v3 false))))) none none none none none none none) := by
    refine B_ok (op_ok (callK_gen (ds := [sq t (nD l)]) (es := [sq t (nD l)]) (cons_ok (f := mPlF 2) (g := mNil) rfl rfl) rfl rfl rfl e3 rfl rfl) (g := mPlF 4) rfl rfl rfl (d1 := spD ps) (d2 := spD ps) ?_)
    rw [neC, decide_eq_true rfl]
    rfl
  have nbh : ∀ p ∈ ps, (0 < p.x → (⟨p.x - 1, p.y, 1⟩ : P3) ∈ ps) ∧ (0 < p.y → (⟨p.x, p.y - 1, 1⟩ : P3) ∈ ps) := fun p hp' => by
    have := pf.nb
    unfold nbB at this
    have := List.all_eq_true.mp this p hp'
    simp only [Bool.and_eq_true, Bool.or_eq_true, Bool.not_eq_true', decide_eq_false_iff_not] at this
    exact ⟨fun z => by simpa using this.1.resolve_left (fun c => c z), fun z => by simpa using this.2.resolve_left (fun c => c z)⟩
  obtain ⟨t6, t7, t8, s6⟩ := nb_loop (o := potO a2 b2) (ps := ps) (s1 := some (.val (.lst (nD l)))) (s2 := some (.val (sq t (nD l)))) (s3 := some (.val (.str S))) (s4 := spV' ps) (s9 := none) (s10 := none) (s11 := none) (s12 := none) ps none none none nbh
  have it6 : mIt (mPlF 5) (st5 (potO a2 b2) (some (.val (.lst (nD l)))) (some (.val (sq t (nD l)))) (some (.val (.str S))) (spV' ps) (some (.own (.lst (ps.map (v3 false))))) none none none none none none none) = .ok (ps.map (v3 false)) (st5 (potO a2 b2) (some (.val (.lst (nD l)))) (some (.val (sq t (nD l)))) (some (.val (.str S))) (spV' ps) (some (.val (.lst (ps.map (v3 false))))) none none none none none none none) := rfl
  obtain ⟨x, a3, b3, p3, hx, e7⟩ := dr_pick (xs := T52.map fun T => t3 false false false false T) (f := mLst (mCons (mTup (mCons (mTup (mCons (mVal (.int 1)) (mCons (mVal (.int 0)) (mCons (mVal (.int 0)) mNil)))) (mCons (mTup (mCons (mVal (.int 0)) (mCons (mVal (.int 1)) (mCons (mVal (.int 0)) mNil)))) (mCons (mTup (mCons (mVal (.int 0)) (mCons (mVal (.int 0)) (mCons (mVal (.int 1)) mNil)))) mNil)))) (mCons (mTup (mCons (mTup (mCons (mVal (.int 0)) (mCons (mVal (.int 1)) (mCons (mVal (.int 1)) mNil)))) (mCons (mTup (mCons (mVal (.int 1)) (mCons (mVal (.int 0)) (mCons (mVal (.int 1)) mNil)))) (mCons (mTup (mCons (mVal (.int 0)) (mCons (mVal (.int 0)) (mCons (mVal (.int 1)) mNil)))) mNil)))) (mCons (mTup (mCons (mTup (mCons (mVal (.int 1)) (mCons (mVal (.int 1)) (mCons (mVal (.int 0)) mNil)))) (mCons (mTup (mCons (mVal (.int 0)) (mCons (mVal (.int 1)) (mCons (mVal (.int 2)) mNil)))) (mCons (mTup (mCons (mVal (.int 1)) (mCons (mVal (.int 0)) (mCons (mVal (.int 1)) mNil)))) mNil)))) mNil))))
    (tl := [some (.val (.lst (nD l))), some (.val (sq t (nD l))), some (.val (.str S)), spV' ps, some (.val (.lst (ps.map (v3 false)))), t6, t7, t8, none, none, none, none]) p2 (by decide) (by decide) rfl
  obtain ⟨T, hT, rfl⟩ := List.mem_map.mp hx
  obtain ⟨dT, lT⟩ := T52_ok T hT
  have s7 := asg_val (g := gNF 9) e7 rfl
  obtain ⟨ρ8, e8⟩ := (ret_moved (t := false) (t1 := false) (t2 := false) (t4 := false) lT (by decide) dT pf.told (by decide) pf.pos (by omega)).ex
  have tl8 := led_told (c := 3 * (2 * 8)) dT lT pf.told (Nat.le_refl _)
  have hf8 := hf.led dT pf.told
  have c8 : mCall 2 [false, false] F_moved (mCons (mPlF 4) (mCons (mPlF 9) mNil)) (st5 (potO a3 b3) (some (.val (.lst (nD l)))) (some (.val (sq t (nD l)))) (some (.val (.str S))) (spV' ps) (some (.val (.lst (ps.map (v3 false))))) t6 t7 t8 (some (.val (t3 false false false false T))) none none none) = .ok (.own (.ins "Spots" (spF (ps.map (ledP T))))) (st5 (potO a3 b3) (some (.val (.lst (nD l)))) (some (.val (sq t (nD l)))) (some (.val (.str S))) (spV' ps) (some (.val (.lst (ps.map (v3 false))))) t6 t7 t8 (some (.val (t3 false false false false T))) none none none) := call_gen (ds := [spD ps, t3 false false false false T]) rfl rfl e8 rfl rfl
  have it8 : mIt (mLst (mCons (mPlF 4) (mCons (mCall 2 [false, false] F_moved (mCons (mPlF 4) (mCons (mPlF 9) mNil))) mNil))) (st5 (potO a3 b3) (some (.val (.lst (nD l)))) (some (.val (sq t (nD l)))) (some (.val (.str S))) (spV' ps) (some (.val (.lst (ps.map (v3 false))))) t6 t7 t8 (some (.val (t3 false false false false T))) none none none) = .ok [spD ps, spD (ps.map (ledP T))] (st5 (potO a3 b3) (some (.val (.lst (nD l)))) (some (.val (sq t (nD l)))) (some (.val (.str S))) (spV' ps) (some (.val (.lst (ps.map (v3 false))))) t6 t7 t8 (some (.val (t3 false false false false T))) none none none) :=
    it_own (lst_ok (ds := [spD ps, spD (ps.map (ledP T))]) (cons_ok (f := mPlF 4) rfl (cons_ok (g := mNil) c8 rfl)) rfl rfl)
  have bd1 := row_body (o := potO a3 b3) (s2 := some (.val (sq t (nD l)))) (s3 := some (.val (.str S))) (s4 := spV' ps) (s5 := some (.val (.lst (ps.map (v3 false))))) (s6 := t6) (s7 := t7) (s8 := t8) (s9 := some (.val (t3 false false false false T))) (s11 := none) (s12 := none) rf hf pf.told (by decide) pf.pos (by omega)
  have bd2 := row_body (o := potO a3 b3) (s2 := some (.val (sq t (nD l)))) (s3 := some (.val (.str S))) (s4 := spV' ps) (s5 := some (.val (.lst (ps.map (v3 false))))) (s6 := t6) (s7 := t7) (s8 := t8) (s9 := some (.val (t3 false false false false T))) (s11 := some (.val (.lst (nD l)))) (s12 := none) rf hf8 tl8 (by decide) (by rw [List.length_map]; exact pf.pos) (by rw [List.length_map]; omega)
  have s8 : forL (gNF 10) rwBd [spD ps, spD (ps.map (ledP T))] (st5 (potO a3 b3) (some (.val (.lst (nD l)))) (some (.val (sq t (nD l)))) (some (.val (.str S))) (spV' ps) (some (.val (.lst (ps.map (v3 false))))) t6 t7 t8 (some (.val (t3 false false false false T))) none none none) = .ok .nx (st5 (potO a3 b3) (some (.val (.lst (nD l)))) (some (.val (sq t (nD l)))) (some (.val (.str S))) (spV' ps) (some (.val (.lst (ps.map (v3 false))))) t6 t7 t8 (some (.val (t3 false false false false T))) (some (.val (spD (ps.map (ledP T))))) (some (.val (.lst (nD l)))) none) := by
    rw [for_cons rfl bd1, for_cons rfl bd2]
    rfl
  obtain ⟨k, a4, b4, p4, hk, e9⟩ := drE (n := l.length) (f := mC bLen (mCons (mPlF 1) mNil)) (tl := [some (.val (.lst (nD l))), some (.val (sq t (nD l))), some (.val (.str S)), spV' ps, some (.val (.lst (ps.map (v3 false)))), t6, t7, t8, some (.val (t3 false false false false T)), some (.val (spD (ps.map (ledP T)))), some (.val (.lst (nD l))), none]) p3 pf.lpos (by have := pf.l9; omega) (fun a b => C_ok (cons_ok (f := mPlF 1) (g := mNil) rfl rfl) rfl (len_nD l))
  have s9 := asg_val (g := gNF 12) e9 rfl
  obtain ⟨ρ10, e10⟩ := (ret_end (pf.told.le38 (by decide)) pf.pos (by omega) hf.en).ex
  have l9 := pf.l9
  have lp := pf.lpos
  obtain ⟨ρ11, e11⟩ := (ret_conditions (d := k) (pf.told.le38 (by decide)) (by omega) pf.pos (by omega)).ex
  have w1 : mB (mOp opNe (mCall 1 [false] F_end (mCons (mPlF 4) mNil)) (mOp opSub (mC bLen (mCons (mPlF 1) mNil)) (mVal (.int 1)))) (st5 (potO a4 b4) (some (.val (.lst (nD l)))) (some (.val (sq t (nD l)))) (some (.val (.str S))) (spV' ps) (some (.val (.lst (ps.map (v3 false))))) t6 t7 t8 (some (.val (t3 false false false false T))) (some (.val (spD (ps.map (ledP T))))) (some (.val (.lst (nD l)))) (some (.val (.int (k : Nat))))) = .ok false (st5 (potO a4 b4) (some (.val (.lst (nD l)))) (some (.val (sq t (nD l)))) (some (.val (.str S))) (spV' ps) (some (.val (.lst (ps.map (v3 false))))) t6 t7 t8 (some (.val (t3 false false false false T))) (some (.val (spD (ps.map (ledP T))))) (some (.val (.lst (nD l)))) (some (.val (.int (k : Nat))))) := by
    refine B_ok (op_ok (call_gen (ds := [spD ps]) (cons_ok (f := mPlF 4) (g := mNil) rfl rfl) rfl e10 rfl rfl) (op_ok (C_ok (c := bLen) (cons_ok (f := mPlF 1) (g := mNil) rfl rfl) rfl (len_nD l)) (g := mVal (.int 1)) rfl rfl rfl rfl) rfl rfl ?_)
    rw [opNe_int, decide_eq_true (by omega)]
    rfl
  have sm : bSum [.lst (nD (l.take (k + 1)))] = some (.val (.int ((l.take (k + 1)).sum : Nat))) := sum_nD _
  have sl : mSl (mPlF 1) mNo (mSome (mOp opAdd (mPlF 12) (mVal (.int 1)))) (st5 (potO a4 b4) (some (.val (.lst (nD l)))) (some (.val (sq t (nD l)))) (some (.val (.str S))) (spV' ps) (some (.val (.lst (ps.map (v3 false))))) t6 t7 t8 (some (.val (t3 false false false false T))) (some (.val (spD (ps.map (ledP T))))) (some (.val (.lst (nD l)))) (some (.val (.int (k : Nat))))) = .ok (.own (.lst (nD (l.take (k + 1))))) (st5 (potO a4 b4) (some (.val (.lst (nD l)))) (some (.val (sq t (nD l)))) (some (.val (.str S))) (spV' ps) (some (.val (.lst (ps.map (v3 false))))) t6 t7 t8 (some (.val (t3 false false false false T))) (some (.val (spD (ps.map (ledP T))))) (some (.val (.lst (nD l)))) (some (.val (.int (k : Nat))))) := by
    show Res.ok (RV.own (Ob.lst (cutD (nD l) none (some ((k + 1 : Nat) : Int))))) _ = _
    rw [cut_take (by unfold nD; rw [List.length_map]; omega)]
    unfold nD
    rw [List.map_take]
  have w2 : mB (mOp opNe (mCall 2 [false, false] F_conditions (mCons (mPlF 4) (mCons (mPlF 12) mNil))) (mC bSum (mCons (mSl (mPlF 1) mNo (mSome (mOp opAdd (mPlF 12) (mVal (.int 1))))) mNil))) (st5 (potO a4 b4) (some (.val (.lst (nD l)))) (some (.val (sq t (nD l)))) (some (.val (.str S))) (spV' ps) (some (.val (.lst (ps.map (v3 false))))) t6 t7 t8 (some (.val (t3 false false false false T))) (some (.val (spD (ps.map (ledP T))))) (some (.val (.lst (nD l)))) (some (.val (.int (k : Nat))))) = .ok false (st5 (potO a4 b4) (some (.val (.lst (nD l)))) (some (.val (sq t (nD l)))) (some (.val (.str S))) (spV' ps) (some (.val (.lst (ps.map (v3 false))))) t6 t7 t8 (some (.val (t3 false false false false T))) (some (.val (spD (ps.map (ledP T))))) (some (.val (.lst (nD l)))) (some (.val (.int (k : Nat))))) := by
    refine B_ok (op_ok (call_gen (ds := [spD ps, .int (k : Nat)]) rfl rfl e11 rfl rfl) (C_ok (c := bSum) (cons_ok (g := mNil) sl rfl) rfl sm) rfl rfl ?_)
    rw [opNe_int, hf.cs k hk, decide_eq_true rfl]
    rfl
  have fin : mOp opEq (mC bRepr (mCons (mPlF 2) mNil)) (mPlF 3) (st5 (potO a4 b4) (some (.val (.lst (nD l)))) (some (.val (sq t (nD l)))) (some (.val (.str S))) (spV' ps) (some (.val (.lst (ps.map (v3 false))))) t6 t7 t8 (some (.val (t3 false false false false T))) (some (.val (spD (ps.map (ledP T))))) (some (.val (.lst (nD l)))) (some (.val (.int (k : Nat))))) = .ok (.val (.bl true)) (st5 (potO a4 b4) (some (.val (.lst (nD l)))) (some (.val (sq t (nD l)))) (some (.val (.str S))) (spV' ps) (some (.val (.lst (ps.map (v3 false))))) t6 t7 t8 (some (.val (t3 false false false false T))) (some (.val (spD (ps.map (ledP T))))) (some (.val (.lst (nD l)))) (some (.val (.int (k : Nat))))) :=
    op_ok (C_ok (c := bRepr) (cons_ok (f := mPlF 2) (g := mNil) rfl rfl) rfl rp) (g := mPlF 3) rfl rfl rfl (eq_of (eqQ_str (by rw [← hS]; exact sk_row hl t)))
  exact ⟨_, fnBody_rt (seq_nx s1 (seq_nx s2' (seq_nx s3 (seq_nx s4 (seq_nx (if_ok (orT_f u1 (orT_f u2 (orT_f u3 u4))) rfl) (seq_nx (for_ok it6 s6) (seq_nx s7 (seq_nx (for_ok it8 s8) (seq_nx s9 (seq_nx (if_ok (orT_f w1 w2) rfl) (ret_ok fin rfl)))))))))))⟩
end
end VE

namespace VE
open PySem PySem.Spec PyProof.Rows L2 G0 RK
noncomputable section
theorem law_true (ns : List Int) (h : ns.length ≤ 63) : ∃ ρ, F_law [.val (.lst (ns.map D.int))] = .ok (.val (.bl true)) ρ := by
  obtain ⟨a, b, ρ1, p, e⟩ := pot_ok (A0 := 313) (B0 := 71) (A := 40014) (C := 7027) (c0 := 31) (ns := ns) (k := 0) h (by decide) (by decide) (by decide) (by decide)
  obtain ⟨ρ2, e2⟩ := right_true p
  exact law_of (P := F__law_pot) e e2
end
end VE

set_option pp.oneline true
namespace VE
open PySem PySem.Spec PyProof.Rows L2 G0
/-! ### what the top has written; the head -/
theorem all_mk {l : PySem.W.OpenLaw} {w : World} {K : PySem.W.Frag} {h : Heap} {mg : Str → Option Value} {fa f__law_draw f__law_row f__law_passed f__law_points f__law_pick f_is_list f_is_integer f_is_count f_is_counts f_first_fault f_is_row f_check_row f_is_three f_is_point f_divisor f_plain f_told_point f_stair f_check_spots f_dot f_crossed f_determinant f_is_three_by_three f_check_table f_led f_moved f_check_degree f_check_spots_degree f_first_place f_cleared f_columns_by f_independent_columns f_rank f_powers f_worths_of f_triples_of f_condition_rows f_conditions f_rising_counts f_numbers_of f_row f_end f_count_through f_top f__law_top f__law_right f__law_pot f_law C_Spots f_Spots_init f_Spots___eq__ f_Spots_points : Addr} (X : K.In h) (G : h.Ns mainGlobals mg) (hfa : mg "law" = some (.ref fa))
    {od__law_draw an__law_draw : Option Addr} {sl__law_draw : Array (Option Value)} {oc__law_draw kV__law_draw dc__law_draw pm__law_draw cd__law_draw ct__law_draw : Value}
    {od__law_row an__law_row : Option Addr} {sl__law_row : Array (Option Value)} {oc__law_row kV__law_row dc__law_row pm__law_row cd__law_row ct__law_row : Value}
    {od__law_passed an__law_passed : Option Addr} {sl__law_passed : Array (Option Value)} {oc__law_passed kV__law_passed dc__law_passed pm__law_passed cd__law_passed ct__law_passed : Value}
    {od__law_points an__law_points : Option Addr} {sl__law_points : Array (Option Value)} {oc__law_points kV__law_points dc__law_points pm__law_points cd__law_points ct__law_points : Value}
    {od__law_pick an__law_pick : Option Addr} {sl__law_pick : Array (Option Value)} {oc__law_pick kV__law_pick dc__law_pick pm__law_pick cd__law_pick ct__law_pick : Value}
    {od_is_list an_is_list : Option Addr} {sl_is_list : Array (Option Value)} {oc_is_list kV_is_list dc_is_list pm_is_list cd_is_list ct_is_list : Value}
    {od_is_integer an_is_integer : Option Addr} {sl_is_integer : Array (Option Value)} {oc_is_integer kV_is_integer dc_is_integer pm_is_integer cd_is_integer ct_is_integer : Value}
    {od_is_count an_is_count : Option Addr} {sl_is_count : Array (Option Value)} {oc_is_count kV_is_count dc_is_count pm_is_count cd_is_count ct_is_count : Value}
    {od_is_counts an_is_counts : Option Addr} {sl_is_counts : Array (Option Value)} {oc_is_counts kV_is_counts dc_is_counts pm_is_counts cd_is_counts ct_is_counts : Value}
    {od_first_fault an_first_fault : Option Addr} {sl_first_fault : Array (Option Value)} {oc_first_fault kV_first_fault dc_first_fault pm_first_fault cd_first_fault ct_first_fault : Value}
    {od_is_row an_is_row : Option Addr} {sl_is_row : Array (Option Value)} {oc_is_row kV_is_row dc_is_row pm_is_row cd_is_row ct_is_row : Value}
    {od_check_row an_check_row : Option Addr} {sl_check_row : Array (Option Value)} {oc_check_row kV_check_row dc_check_row pm_check_row cd_check_row ct_check_row : Value}
    {od_is_three an_is_three : Option Addr} {sl_is_three : Array (Option Value)} {oc_is_three kV_is_three dc_is_three pm_is_three cd_is_three ct_is_three : Value}
    {od_is_point an_is_point : Option Addr} {sl_is_point : Array (Option Value)} {oc_is_point kV_is_point dc_is_point pm_is_point cd_is_point ct_is_point : Value}
    {od_divisor an_divisor : Option Addr} {sl_divisor : Array (Option Value)} {oc_divisor kV_divisor dc_divisor pm_divisor cd_divisor ct_divisor : Value}
    {od_plain an_plain : Option Addr} {sl_plain : Array (Option Value)} {oc_plain kV_plain dc_plain pm_plain cd_plain ct_plain : Value}
    {od_told_point an_told_point : Option Addr} {sl_told_point : Array (Option Value)} {oc_told_point kV_told_point dc_told_point pm_told_point cd_told_point ct_told_point : Value}
    {od_stair an_stair : Option Addr} {sl_stair : Array (Option Value)} {oc_stair kV_stair dc_stair pm_stair cd_stair ct_stair : Value}
    {od_check_spots an_check_spots : Option Addr} {sl_check_spots : Array (Option Value)} {oc_check_spots kV_check_spots dc_check_spots pm_check_spots cd_check_spots ct_check_spots : Value}
    {od_dot an_dot : Option Addr} {sl_dot : Array (Option Value)} {oc_dot kV_dot dc_dot pm_dot cd_dot ct_dot : Value}
    {od_crossed an_crossed : Option Addr} {sl_crossed : Array (Option Value)} {oc_crossed kV_crossed dc_crossed pm_crossed cd_crossed ct_crossed : Value}
    {od_determinant an_determinant : Option Addr} {sl_determinant : Array (Option Value)} {oc_determinant kV_determinant dc_determinant pm_determinant cd_determinant ct_determinant : Value}
    {od_is_three_by_three an_is_three_by_three : Option Addr} {sl_is_three_by_three : Array (Option Value)} {oc_is_three_by_three kV_is_three_by_three dc_is_three_by_three pm_is_three_by_three cd_is_three_by_three ct_is_three_by_three : Value}
    {od_check_table an_check_table : Option Addr} {sl_check_table : Array (Option Value)} {oc_check_table kV_check_table dc_check_table pm_check_table cd_check_table ct_check_table : Value}
    {od_led an_led : Option Addr} {sl_led : Array (Option Value)} {oc_led kV_led dc_led pm_led cd_led ct_led : Value}
    {od_moved an_moved : Option Addr} {sl_moved : Array (Option Value)} {oc_moved kV_moved dc_moved pm_moved cd_moved ct_moved : Value}
    {od_check_degree an_check_degree : Option Addr} {sl_check_degree : Array (Option Value)} {oc_check_degree kV_check_degree dc_check_degree pm_check_degree cd_check_degree ct_check_degree : Value}
    {od_check_spots_degree an_check_spots_degree : Option Addr} {sl_check_spots_degree : Array (Option Value)} {oc_check_spots_degree kV_check_spots_degree dc_check_spots_degree pm_check_spots_degree cd_check_spots_degree ct_check_spots_degree : Value}
    {od_first_place an_first_place : Option Addr} {sl_first_place : Array (Option Value)} {oc_first_place kV_first_place dc_first_place pm_first_place cd_first_place ct_first_place : Value}
    {od_cleared an_cleared : Option Addr} {sl_cleared : Array (Option Value)} {oc_cleared kV_cleared dc_cleared pm_cleared cd_cleared ct_cleared : Value}
    {od_columns_by an_columns_by : Option Addr} {sl_columns_by : Array (Option Value)} {oc_columns_by kV_columns_by dc_columns_by pm_columns_by cd_columns_by ct_columns_by : Value}
    {od_independent_columns an_independent_columns : Option Addr} {sl_independent_columns : Array (Option Value)} {oc_independent_columns kV_independent_columns dc_independent_columns pm_independent_columns cd_independent_columns ct_independent_columns : Value}
    {od_rank an_rank : Option Addr} {sl_rank : Array (Option Value)} {oc_rank kV_rank dc_rank pm_rank cd_rank ct_rank : Value}
    {od_powers an_powers : Option Addr} {sl_powers : Array (Option Value)} {oc_powers kV_powers dc_powers pm_powers cd_powers ct_powers : Value}
    {od_worths_of an_worths_of : Option Addr} {sl_worths_of : Array (Option Value)} {oc_worths_of kV_worths_of dc_worths_of pm_worths_of cd_worths_of ct_worths_of : Value}
    {od_triples_of an_triples_of : Option Addr} {sl_triples_of : Array (Option Value)} {oc_triples_of kV_triples_of dc_triples_of pm_triples_of cd_triples_of ct_triples_of : Value}
    {od_condition_rows an_condition_rows : Option Addr} {sl_condition_rows : Array (Option Value)} {oc_condition_rows kV_condition_rows dc_condition_rows pm_condition_rows cd_condition_rows ct_condition_rows : Value}
    {od_conditions an_conditions : Option Addr} {sl_conditions : Array (Option Value)} {oc_conditions kV_conditions dc_conditions pm_conditions cd_conditions ct_conditions : Value}
    {od_rising_counts an_rising_counts : Option Addr} {sl_rising_counts : Array (Option Value)} {oc_rising_counts kV_rising_counts dc_rising_counts pm_rising_counts cd_rising_counts ct_rising_counts : Value}
    {od_numbers_of an_numbers_of : Option Addr} {sl_numbers_of : Array (Option Value)} {oc_numbers_of kV_numbers_of dc_numbers_of pm_numbers_of cd_numbers_of ct_numbers_of : Value}
    {od_row an_row : Option Addr} {sl_row : Array (Option Value)} {oc_row kV_row dc_row pm_row cd_row ct_row : Value}
    {od_end an_end : Option Addr} {sl_end : Array (Option Value)} {oc_end kV_end dc_end pm_end cd_end ct_end : Value}
    {od_count_through an_count_through : Option Addr} {sl_count_through : Array (Option Value)} {oc_count_through kV_count_through dc_count_through pm_count_through cd_count_through ct_count_through : Value}
    {od_top an_top : Option Addr} {sl_top : Array (Option Value)} {oc_top kV_top dc_top pm_top cd_top ct_top : Value}
    {od__law_top an__law_top : Option Addr} {sl__law_top : Array (Option Value)} {oc__law_top kV__law_top dc__law_top pm__law_top cd__law_top ct__law_top : Value}
    {od__law_right an__law_right : Option Addr} {sl__law_right : Array (Option Value)} {oc__law_right kV__law_right dc__law_right pm__law_right cd__law_right ct__law_right : Value}
    {od__law_pot an__law_pot : Option Addr} {sl__law_pot : Array (Option Value)} {oc__law_pot kV__law_pot dc__law_pot pm__law_pot cd__law_pot ct__law_pot : Value}
    {od_law an_law : Option Addr} {sl_law : Array (Option Value)} {oc_law kV_law dc_law pm_law cd_law ct_law : Value}
    {od_Spots_init an_Spots_init : Option Addr} {sl_Spots_init : Array (Option Value)} {oc_Spots_init kV_Spots_init dc_Spots_init pm_Spots_init cd_Spots_init ct_Spots_init : Value}
    {od_Spots___eq__ an_Spots___eq__ : Option Addr} {sl_Spots___eq__ : Array (Option Value)} {oc_Spots___eq__ kV_Spots___eq__ dc_Spots___eq__ pm_Spots___eq__ cd_Spots___eq__ ct_Spots___eq__ : Value}
    {od_Spots_points an_Spots_points : Option Addr} {sl_Spots_points : Array (Option Value)} {oc_Spots_points kV_Spots_points dc_Spots_points pm_Spots_points cd_Spots_points ct_Spots_points : Value}
    {t_MOST_PLACES : Tok}
    {t_PRIME : Tok}
    {t_MOST_END : Tok}
    {t_MOST_SUM : Tok}
    {t_MOST_POINTS : Tok}
    {t_MOST_CONDITIONS_DEGREE : Tok}
    {cd_Spots : ClassData}
    {nm_Spots q_Spots : Str} {N_Spots : Addr} {bs_Spots : List Value} {sn_Spots : List Str} {sub_Spots : List Value} {ab_Spots : Bool} {col_Spots : Option Bool} {dd_Spots : Option Addr} {k0_Spots k1_Spots k2_Spots k3_Spots k5_Spots : Option Value} {newId_Spots : String} {oN_Spots : Value} {dN_Spots : Option Addr} {es_Spots : Array DictEntry} {nN_Spots : Nat} {slN_Spots : Array (Option Value)}
    {p_Spots_size f_Spots_size : Addr} {rest_Spots_size : List Value} {od_Spots_size an_Spots_size : Option Addr} {sl_Spots_size : Array (Option Value)} {oc_Spots_size kV_Spots_size dc_Spots_size pm_Spots_size cd_Spots_size ct_Spots_size : Value}
    (a__law_draw : PySem.W.nsIn K mainGlobals "_law_draw" = some (some (.ref f__law_draw)))
    (l__law_draw : K.lookup f__law_draw = some ⟨oc__law_draw, od__law_draw, .func (PySem.W.fnOf "_law_draw" "_law_draw" (defArgs s__law_draw) (defBody s__law_draw) (defScope s__law_draw) .none kV__law_draw dc__law_draw pm__law_draw an__law_draw cd__law_draw ct__law_draw), sl__law_draw⟩) (c__law_draw : PySem.W.codeIn K cd__law_draw "_law_draw" = true) (k__law_draw : PySem.W.keepIn K (.ref f__law_draw) = true)
    (a__law_row : PySem.W.nsIn K mainGlobals "_law_row" = some (some (.ref f__law_row)))
    (l__law_row : K.lookup f__law_row = some ⟨oc__law_row, od__law_row, .func (PySem.W.fnOf "_law_row" "_law_row" (defArgs s__law_row) (defBody s__law_row) (defScope s__law_row) .none kV__law_row dc__law_row pm__law_row an__law_row cd__law_row ct__law_row), sl__law_row⟩) (c__law_row : PySem.W.codeIn K cd__law_row "_law_row" = true) (k__law_row : PySem.W.keepIn K (.ref f__law_row) = true)
    (a__law_passed : PySem.W.nsIn K mainGlobals "_law_passed" = some (some (.ref f__law_passed)))
    (l__law_passed : K.lookup f__law_passed = some ⟨oc__law_passed, od__law_passed, .func (PySem.W.fnOf "_law_passed" "_law_passed" (defArgs s__law_passed) (defBody s__law_passed) (defScope s__law_passed) .none kV__law_passed dc__law_passed pm__law_passed an__law_passed cd__law_passed ct__law_passed), sl__law_passed⟩) (c__law_passed : PySem.W.codeIn K cd__law_passed "_law_passed" = true) (k__law_passed : PySem.W.keepIn K (.ref f__law_passed) = true)
    (a__law_points : PySem.W.nsIn K mainGlobals "_law_points" = some (some (.ref f__law_points)))
    (l__law_points : K.lookup f__law_points = some ⟨oc__law_points, od__law_points, .func (PySem.W.fnOf "_law_points" "_law_points" (defArgs s__law_points) (defBody s__law_points) (defScope s__law_points) .none kV__law_points dc__law_points pm__law_points an__law_points cd__law_points ct__law_points), sl__law_points⟩) (c__law_points : PySem.W.codeIn K cd__law_points "_law_points" = true) (k__law_points : PySem.W.keepIn K (.ref f__law_points) = true)
    (a__law_pick : PySem.W.nsIn K mainGlobals "_law_pick" = some (some (.ref f__law_pick)))
    (l__law_pick : K.lookup f__law_pick = some ⟨oc__law_pick, od__law_pick, .func (PySem.W.fnOf "_law_pick" "_law_pick" (defArgs s__law_pick) (defBody s__law_pick) (defScope s__law_pick) .none kV__law_pick dc__law_pick pm__law_pick an__law_pick cd__law_pick ct__law_pick), sl__law_pick⟩) (c__law_pick : PySem.W.codeIn K cd__law_pick "_law_pick" = true) (k__law_pick : PySem.W.keepIn K (.ref f__law_pick) = true)
    (a_is_list : PySem.W.nsIn K mainGlobals "is_list" = some (some (.ref f_is_list)))
    (l_is_list : K.lookup f_is_list = some ⟨oc_is_list, od_is_list, .func (PySem.W.fnOf "is_list" "is_list" (defArgs s_is_list) (defBody s_is_list) (defScope s_is_list) .none kV_is_list dc_is_list pm_is_list an_is_list cd_is_list ct_is_list), sl_is_list⟩) (c_is_list : PySem.W.codeIn K cd_is_list "is_list" = true) (k_is_list : PySem.W.keepIn K (.ref f_is_list) = true)
    (a_is_integer : PySem.W.nsIn K mainGlobals "is_integer" = some (some (.ref f_is_integer)))
    (l_is_integer : K.lookup f_is_integer = some ⟨oc_is_integer, od_is_integer, .func (PySem.W.fnOf "is_integer" "is_integer" (defArgs s_is_integer) (defBody s_is_integer) (defScope s_is_integer) .none kV_is_integer dc_is_integer pm_is_integer an_is_integer cd_is_integer ct_is_integer), sl_is_integer⟩) (c_is_integer : PySem.W.codeIn K cd_is_integer "is_integer" = true) (k_is_integer : PySem.W.keepIn K (.ref f_is_integer) = true)
    (a_is_count : PySem.W.nsIn K mainGlobals "is_count" = some (some (.ref f_is_count)))
    (l_is_count : K.lookup f_is_count = some ⟨oc_is_count, od_is_count, .func (PySem.W.fnOf "is_count" "is_count" (defArgs s_is_count) (defBody s_is_count) (defScope s_is_count) .none kV_is_count dc_is_count pm_is_count an_is_count cd_is_count ct_is_count), sl_is_count⟩) (c_is_count : PySem.W.codeIn K cd_is_count "is_count" = true) (k_is_count : PySem.W.keepIn K (.ref f_is_count) = true)
    (a_is_counts : PySem.W.nsIn K mainGlobals "is_counts" = some (some (.ref f_is_counts)))
    (l_is_counts : K.lookup f_is_counts = some ⟨oc_is_counts, od_is_counts, .func (PySem.W.fnOf "is_counts" "is_counts" (defArgs s_is_counts) (defBody s_is_counts) (defScope s_is_counts) .none kV_is_counts dc_is_counts pm_is_counts an_is_counts cd_is_counts ct_is_counts), sl_is_counts⟩) (c_is_counts : PySem.W.codeIn K cd_is_counts "is_counts" = true) (k_is_counts : PySem.W.keepIn K (.ref f_is_counts) = true)
    (a_first_fault : PySem.W.nsIn K mainGlobals "first_fault" = some (some (.ref f_first_fault)))
    (l_first_fault : K.lookup f_first_fault = some ⟨oc_first_fault, od_first_fault, .func (PySem.W.fnOf "first_fault" "first_fault" (defArgs s_first_fault) (defBody s_first_fault) (defScope s_first_fault) .none kV_first_fault dc_first_fault pm_first_fault an_first_fault cd_first_fault ct_first_fault), sl_first_fault⟩) (c_first_fault : PySem.W.codeIn K cd_first_fault "first_fault" = true) (k_first_fault : PySem.W.keepIn K (.ref f_first_fault) = true)
    (a_is_row : PySem.W.nsIn K mainGlobals "is_row" = some (some (.ref f_is_row)))
    (l_is_row : K.lookup f_is_row = some ⟨oc_is_row, od_is_row, .func (PySem.W.fnOf "is_row" "is_row" (defArgs s_is_row) (defBody s_is_row) (defScope s_is_row) .none kV_is_row dc_is_row pm_is_row an_is_row cd_is_row ct_is_row), sl_is_row⟩) (c_is_row : PySem.W.codeIn K cd_is_row "is_row" = true) (k_is_row : PySem.W.keepIn K (.ref f_is_row) = true)
    (a_check_row : PySem.W.nsIn K mainGlobals "check_row" = some (some (.ref f_check_row)))
    (l_check_row : K.lookup f_check_row = some ⟨oc_check_row, od_check_row, .func (PySem.W.fnOf "check_row" "check_row" (defArgs s_check_row) (defBody s_check_row) (defScope s_check_row) .none kV_check_row dc_check_row pm_check_row an_check_row cd_check_row ct_check_row), sl_check_row⟩) (c_check_row : PySem.W.codeIn K cd_check_row "check_row" = true) (k_check_row : PySem.W.keepIn K (.ref f_check_row) = true)
    (a_is_three : PySem.W.nsIn K mainGlobals "is_three" = some (some (.ref f_is_three)))
    (l_is_three : K.lookup f_is_three = some ⟨oc_is_three, od_is_three, .func (PySem.W.fnOf "is_three" "is_three" (defArgs s_is_three) (defBody s_is_three) (defScope s_is_three) .none kV_is_three dc_is_three pm_is_three an_is_three cd_is_three ct_is_three), sl_is_three⟩) (c_is_three : PySem.W.codeIn K cd_is_three "is_three" = true) (k_is_three : PySem.W.keepIn K (.ref f_is_three) = true)
    (a_is_point : PySem.W.nsIn K mainGlobals "is_point" = some (some (.ref f_is_point)))
    (l_is_point : K.lookup f_is_point = some ⟨oc_is_point, od_is_point, .func (PySem.W.fnOf "is_point" "is_point" (defArgs s_is_point) (defBody s_is_point) (defScope s_is_point) .none kV_is_point dc_is_point pm_is_point an_is_point cd_is_point ct_is_point), sl_is_point⟩) (c_is_point : PySem.W.codeIn K cd_is_point "is_point" = true) (k_is_point : PySem.W.keepIn K (.ref f_is_point) = true)
    (a_divisor : PySem.W.nsIn K mainGlobals "divisor" = some (some (.ref f_divisor)))
    (l_divisor : K.lookup f_divisor = some ⟨oc_divisor, od_divisor, .func (PySem.W.fnOf "divisor" "divisor" (defArgs s_divisor) (defBody s_divisor) (defScope s_divisor) .none kV_divisor dc_divisor pm_divisor an_divisor cd_divisor ct_divisor), sl_divisor⟩) (c_divisor : PySem.W.codeIn K cd_divisor "divisor" = true) (k_divisor : PySem.W.keepIn K (.ref f_divisor) = true)
    (a_plain : PySem.W.nsIn K mainGlobals "plain" = some (some (.ref f_plain)))
    (l_plain : K.lookup f_plain = some ⟨oc_plain, od_plain, .func (PySem.W.fnOf "plain" "plain" (defArgs s_plain) (defBody s_plain) (defScope s_plain) .none kV_plain dc_plain pm_plain an_plain cd_plain ct_plain), sl_plain⟩) (c_plain : PySem.W.codeIn K cd_plain "plain" = true) (k_plain : PySem.W.keepIn K (.ref f_plain) = true)
    (a_told_point : PySem.W.nsIn K mainGlobals "told_point" = some (some (.ref f_told_point)))
    (l_told_point : K.lookup f_told_point = some ⟨oc_told_point, od_told_point, .func (PySem.W.fnOf "told_point" "told_point" (defArgs s_told_point) (defBody s_told_point) (defScope s_told_point) .none kV_told_point dc_told_point pm_told_point an_told_point cd_told_point ct_told_point), sl_told_point⟩) (c_told_point : PySem.W.codeIn K cd_told_point "told_point" = true) (k_told_point : PySem.W.keepIn K (.ref f_told_point) = true)
    (a_stair : PySem.W.nsIn K mainGlobals "stair" = some (some (.ref f_stair)))
    (l_stair : K.lookup f_stair = some ⟨oc_stair, od_stair, .func (PySem.W.fnOf "stair" "stair" (defArgs s_stair) (defBody s_stair) (defScope s_stair) .none kV_stair dc_stair pm_stair an_stair cd_stair ct_stair), sl_stair⟩) (c_stair : PySem.W.codeIn K cd_stair "stair" = true) (k_stair : PySem.W.keepIn K (.ref f_stair) = true)
    (a_check_spots : PySem.W.nsIn K mainGlobals "check_spots" = some (some (.ref f_check_spots)))
    (l_check_spots : K.lookup f_check_spots = some ⟨oc_check_spots, od_check_spots, .func (PySem.W.fnOf "check_spots" "check_spots" (defArgs s_check_spots) (defBody s_check_spots) (defScope s_check_spots) .none kV_check_spots dc_check_spots pm_check_spots an_check_spots cd_check_spots ct_check_spots), sl_check_spots⟩) (c_check_spots : PySem.W.codeIn K cd_check_spots "check_spots" = true) (k_check_spots : PySem.W.keepIn K (.ref f_check_spots) = true)
    (a_dot : PySem.W.nsIn K mainGlobals "dot" = some (some (.ref f_dot)))
    (l_dot : K.lookup f_dot = some ⟨oc_dot, od_dot, .func (PySem.W.fnOf "dot" "dot" (defArgs s_dot) (defBody s_dot) (defScope s_dot) .none kV_dot dc_dot pm_dot an_dot cd_dot ct_dot), sl_dot⟩) (c_dot : PySem.W.codeIn K cd_dot "dot" = true) (k_dot : PySem.W.keepIn K (.ref f_dot) = true)
    (a_crossed : PySem.W.nsIn K mainGlobals "crossed" = some (some (.ref f_crossed)))
    (l_crossed : K.lookup f_crossed = some ⟨oc_crossed, od_crossed, .func (PySem.W.fnOf "crossed" "crossed" (defArgs s_crossed) (defBody s_crossed) (defScope s_crossed) .none kV_crossed dc_crossed pm_crossed an_crossed cd_crossed ct_crossed), sl_crossed⟩) (c_crossed : PySem.W.codeIn K cd_crossed "crossed" = true) (k_crossed : PySem.W.keepIn K (.ref f_crossed) = true)
    (a_determinant : PySem.W.nsIn K mainGlobals "determinant" = some (some (.ref f_determinant)))
    (l_determinant : K.lookup f_determinant = some ⟨oc_determinant, od_determinant, .func (PySem.W.fnOf "determinant" "determinant" (defArgs s_determinant) (defBody s_determinant) (defScope s_determinant) .none kV_determinant dc_determinant pm_determinant an_determinant cd_determinant ct_determinant), sl_determinant⟩) (c_determinant : PySem.W.codeIn K cd_determinant "determinant" = true) (k_determinant : PySem.W.keepIn K (.ref f_determinant) = true)
    (a_is_three_by_three : PySem.W.nsIn K mainGlobals "is_three_by_three" = some (some (.ref f_is_three_by_three)))
    (l_is_three_by_three : K.lookup f_is_three_by_three = some ⟨oc_is_three_by_three, od_is_three_by_three, .func (PySem.W.fnOf "is_three_by_three" "is_three_by_three" (defArgs s_is_three_by_three) (defBody s_is_three_by_three) (defScope s_is_three_by_three) .none kV_is_three_by_three dc_is_three_by_three pm_is_three_by_three an_is_three_by_three cd_is_three_by_three ct_is_three_by_three), sl_is_three_by_three⟩) (c_is_three_by_three : PySem.W.codeIn K cd_is_three_by_three "is_three_by_three" = true) (k_is_three_by_three : PySem.W.keepIn K (.ref f_is_three_by_three) = true)
    (a_check_table : PySem.W.nsIn K mainGlobals "check_table" = some (some (.ref f_check_table)))
    (l_check_table : K.lookup f_check_table = some ⟨oc_check_table, od_check_table, .func (PySem.W.fnOf "check_table" "check_table" (defArgs s_check_table) (defBody s_check_table) (defScope s_check_table) .none kV_check_table dc_check_table pm_check_table an_check_table cd_check_table ct_check_table), sl_check_table⟩) (c_check_table : PySem.W.codeIn K cd_check_table "check_table" = true) (k_check_table : PySem.W.keepIn K (.ref f_check_table) = true)
    (a_led : PySem.W.nsIn K mainGlobals "led" = some (some (.ref f_led)))
    (l_led : K.lookup f_led = some ⟨oc_led, od_led, .func (PySem.W.fnOf "led" "led" (defArgs s_led) (defBody s_led) (defScope s_led) .none kV_led dc_led pm_led an_led cd_led ct_led), sl_led⟩) (c_led : PySem.W.codeIn K cd_led "led" = true) (k_led : PySem.W.keepIn K (.ref f_led) = true)
    (a_moved : PySem.W.nsIn K mainGlobals "moved" = some (some (.ref f_moved)))
    (l_moved : K.lookup f_moved = some ⟨oc_moved, od_moved, .func (PySem.W.fnOf "moved" "moved" (defArgs s_moved) (defBody s_moved) (defScope s_moved) .none kV_moved dc_moved pm_moved an_moved cd_moved ct_moved), sl_moved⟩) (c_moved : PySem.W.codeIn K cd_moved "moved" = true) (k_moved : PySem.W.keepIn K (.ref f_moved) = true)
    (a_check_degree : PySem.W.nsIn K mainGlobals "check_degree" = some (some (.ref f_check_degree)))
    (l_check_degree : K.lookup f_check_degree = some ⟨oc_check_degree, od_check_degree, .func (PySem.W.fnOf "check_degree" "check_degree" (defArgs s_check_degree) (defBody s_check_degree) (defScope s_check_degree) .none kV_check_degree dc_check_degree pm_check_degree an_check_degree cd_check_degree ct_check_degree), sl_check_degree⟩) (c_check_degree : PySem.W.codeIn K cd_check_degree "check_degree" = true) (k_check_degree : PySem.W.keepIn K (.ref f_check_degree) = true)
    (a_check_spots_degree : PySem.W.nsIn K mainGlobals "check_spots_degree" = some (some (.ref f_check_spots_degree)))
    (l_check_spots_degree : K.lookup f_check_spots_degree = some ⟨oc_check_spots_degree, od_check_spots_degree, .func (PySem.W.fnOf "check_spots_degree" "check_spots_degree" (defArgs s_check_spots_degree) (defBody s_check_spots_degree) (defScope s_check_spots_degree) .none kV_check_spots_degree dc_check_spots_degree pm_check_spots_degree an_check_spots_degree cd_check_spots_degree ct_check_spots_degree), sl_check_spots_degree⟩) (c_check_spots_degree : PySem.W.codeIn K cd_check_spots_degree "check_spots_degree" = true) (k_check_spots_degree : PySem.W.keepIn K (.ref f_check_spots_degree) = true)
    (a_first_place : PySem.W.nsIn K mainGlobals "first_place" = some (some (.ref f_first_place)))
    (l_first_place : K.lookup f_first_place = some ⟨oc_first_place, od_first_place, .func (PySem.W.fnOf "first_place" "first_place" (defArgs s_first_place) (defBody s_first_place) (defScope s_first_place) .none kV_first_place dc_first_place pm_first_place an_first_place cd_first_place ct_first_place), sl_first_place⟩) (c_first_place : PySem.W.codeIn K cd_first_place "first_place" = true) (k_first_place : PySem.W.keepIn K (.ref f_first_place) = true)
    (a_cleared : PySem.W.nsIn K mainGlobals "cleared" = some (some (.ref f_cleared)))
    (l_cleared : K.lookup f_cleared = some ⟨oc_cleared, od_cleared, .func (PySem.W.fnOf "cleared" "cleared" (defArgs s_cleared) (defBody s_cleared) (defScope s_cleared) .none kV_cleared dc_cleared pm_cleared an_cleared cd_cleared ct_cleared), sl_cleared⟩) (c_cleared : PySem.W.codeIn K cd_cleared "cleared" = true) (k_cleared : PySem.W.keepIn K (.ref f_cleared) = true)
    (a_columns_by : PySem.W.nsIn K mainGlobals "columns_by" = some (some (.ref f_columns_by)))
    (l_columns_by : K.lookup f_columns_by = some ⟨oc_columns_by, od_columns_by, .func (PySem.W.fnOf "columns_by" "columns_by" (defArgs s_columns_by) (defBody s_columns_by) (defScope s_columns_by) .none kV_columns_by dc_columns_by pm_columns_by an_columns_by cd_columns_by ct_columns_by), sl_columns_by⟩) (c_columns_by : PySem.W.codeIn K cd_columns_by "columns_by" = true) (k_columns_by : PySem.W.keepIn K (.ref f_columns_by) = true)
    (a_independent_columns : PySem.W.nsIn K mainGlobals "independent_columns" = some (some (.ref f_independent_columns)))
    (l_independent_columns : K.lookup f_independent_columns = some ⟨oc_independent_columns, od_independent_columns, .func (PySem.W.fnOf "independent_columns" "independent_columns" (defArgs s_independent_columns) (defBody s_independent_columns) (defScope s_independent_columns) .none kV_independent_columns dc_independent_columns pm_independent_columns an_independent_columns cd_independent_columns ct_independent_columns), sl_independent_columns⟩) (c_independent_columns : PySem.W.codeIn K cd_independent_columns "independent_columns" = true) (k_independent_columns : PySem.W.keepIn K (.ref f_independent_columns) = true)
    (a_rank : PySem.W.nsIn K mainGlobals "rank" = some (some (.ref f_rank)))
    (l_rank : K.lookup f_rank = some ⟨oc_rank, od_rank, .func (PySem.W.fnOf "rank" "rank" (defArgs s_rank) (defBody s_rank) (defScope s_rank) .none kV_rank dc_rank pm_rank an_rank cd_rank ct_rank), sl_rank⟩) (c_rank : PySem.W.codeIn K cd_rank "rank" = true) (k_rank : PySem.W.keepIn K (.ref f_rank) = true)
    (a_powers : PySem.W.nsIn K mainGlobals "powers" = some (some (.ref f_powers)))
    (l_powers : K.lookup f_powers = some ⟨oc_powers, od_powers, .func (PySem.W.fnOf "powers" "powers" (defArgs s_powers) (defBody s_powers) (defScope s_powers) .none kV_powers dc_powers pm_powers an_powers cd_powers ct_powers), sl_powers⟩) (c_powers : PySem.W.codeIn K cd_powers "powers" = true) (k_powers : PySem.W.keepIn K (.ref f_powers) = true)
    (a_worths_of : PySem.W.nsIn K mainGlobals "worths_of" = some (some (.ref f_worths_of)))
    (l_worths_of : K.lookup f_worths_of = some ⟨oc_worths_of, od_worths_of, .func (PySem.W.fnOf "worths_of" "worths_of" (defArgs s_worths_of) (defBody s_worths_of) (defScope s_worths_of) .none kV_worths_of dc_worths_of pm_worths_of an_worths_of cd_worths_of ct_worths_of), sl_worths_of⟩) (c_worths_of : PySem.W.codeIn K cd_worths_of "worths_of" = true) (k_worths_of : PySem.W.keepIn K (.ref f_worths_of) = true)
    (a_triples_of : PySem.W.nsIn K mainGlobals "triples_of" = some (some (.ref f_triples_of)))
    (l_triples_of : K.lookup f_triples_of = some ⟨oc_triples_of, od_triples_of, .func (PySem.W.fnOf "triples_of" "triples_of" (defArgs s_triples_of) (defBody s_triples_of) (defScope s_triples_of) .none kV_triples_of dc_triples_of pm_triples_of an_triples_of cd_triples_of ct_triples_of), sl_triples_of⟩) (c_triples_of : PySem.W.codeIn K cd_triples_of "triples_of" = true) (k_triples_of : PySem.W.keepIn K (.ref f_triples_of) = true)
    (a_condition_rows : PySem.W.nsIn K mainGlobals "condition_rows" = some (some (.ref f_condition_rows)))
    (l_condition_rows : K.lookup f_condition_rows = some ⟨oc_condition_rows, od_condition_rows, .func (PySem.W.fnOf "condition_rows" "condition_rows" (defArgs s_condition_rows) (defBody s_condition_rows) (defScope s_condition_rows) .none kV_condition_rows dc_condition_rows pm_condition_rows an_condition_rows cd_condition_rows ct_condition_rows), sl_condition_rows⟩) (c_condition_rows : PySem.W.codeIn K cd_condition_rows "condition_rows" = true) (k_condition_rows : PySem.W.keepIn K (.ref f_condition_rows) = true)
    (a_conditions : PySem.W.nsIn K mainGlobals "conditions" = some (some (.ref f_conditions)))
    (l_conditions : K.lookup f_conditions = some ⟨oc_conditions, od_conditions, .func (PySem.W.fnOf "conditions" "conditions" (defArgs s_conditions) (defBody s_conditions) (defScope s_conditions) .none kV_conditions dc_conditions pm_conditions an_conditions cd_conditions ct_conditions), sl_conditions⟩) (c_conditions : PySem.W.codeIn K cd_conditions "conditions" = true) (k_conditions : PySem.W.keepIn K (.ref f_conditions) = true)
    (a_rising_counts : PySem.W.nsIn K mainGlobals "rising_counts" = some (some (.ref f_rising_counts)))
    (l_rising_counts : K.lookup f_rising_counts = some ⟨oc_rising_counts, od_rising_counts, .func (PySem.W.fnOf "rising_counts" "rising_counts" (defArgs s_rising_counts) (defBody s_rising_counts) (defScope s_rising_counts) .none kV_rising_counts dc_rising_counts pm_rising_counts an_rising_counts cd_rising_counts ct_rising_counts), sl_rising_counts⟩) (c_rising_counts : PySem.W.codeIn K cd_rising_counts "rising_counts" = true) (k_rising_counts : PySem.W.keepIn K (.ref f_rising_counts) = true)
    (a_numbers_of : PySem.W.nsIn K mainGlobals "numbers_of" = some (some (.ref f_numbers_of)))
    (l_numbers_of : K.lookup f_numbers_of = some ⟨oc_numbers_of, od_numbers_of, .func (PySem.W.fnOf "numbers_of" "numbers_of" (defArgs s_numbers_of) (defBody s_numbers_of) (defScope s_numbers_of) .none kV_numbers_of dc_numbers_of pm_numbers_of an_numbers_of cd_numbers_of ct_numbers_of), sl_numbers_of⟩) (c_numbers_of : PySem.W.codeIn K cd_numbers_of "numbers_of" = true) (k_numbers_of : PySem.W.keepIn K (.ref f_numbers_of) = true)
    (a_row : PySem.W.nsIn K mainGlobals "row" = some (some (.ref f_row)))
    (l_row : K.lookup f_row = some ⟨oc_row, od_row, .func (PySem.W.fnOf "row" "row" (defArgs s_row) (defBody s_row) (defScope s_row) .none kV_row dc_row pm_row an_row cd_row ct_row), sl_row⟩) (c_row : PySem.W.codeIn K cd_row "row" = true) (k_row : PySem.W.keepIn K (.ref f_row) = true)
    (a_end : PySem.W.nsIn K mainGlobals "end" = some (some (.ref f_end)))
    (l_end : K.lookup f_end = some ⟨oc_end, od_end, .func (PySem.W.fnOf "end" "end" (defArgs s_end) (defBody s_end) (defScope s_end) .none kV_end dc_end pm_end an_end cd_end ct_end), sl_end⟩) (c_end : PySem.W.codeIn K cd_end "end" = true) (k_end : PySem.W.keepIn K (.ref f_end) = true)
    (a_count_through : PySem.W.nsIn K mainGlobals "count_through" = some (some (.ref f_count_through)))
    (l_count_through : K.lookup f_count_through = some ⟨oc_count_through, od_count_through, .func (PySem.W.fnOf "count_through" "count_through" (defArgs s_count_through) (defBody s_count_through) (defScope s_count_through) .none kV_count_through dc_count_through pm_count_through an_count_through cd_count_through ct_count_through), sl_count_through⟩) (c_count_through : PySem.W.codeIn K cd_count_through "count_through" = true) (k_count_through : PySem.W.keepIn K (.ref f_count_through) = true)
    (a_top : PySem.W.nsIn K mainGlobals "top" = some (some (.ref f_top)))
    (l_top : K.lookup f_top = some ⟨oc_top, od_top, .func (PySem.W.fnOf "top" "top" (defArgs s_top) (defBody s_top) (defScope s_top) .none kV_top dc_top pm_top an_top cd_top ct_top), sl_top⟩) (c_top : PySem.W.codeIn K cd_top "top" = true) (k_top : PySem.W.keepIn K (.ref f_top) = true)
    (a__law_top : PySem.W.nsIn K mainGlobals "_law_top" = some (some (.ref f__law_top)))
    (l__law_top : K.lookup f__law_top = some ⟨oc__law_top, od__law_top, .func (PySem.W.fnOf "_law_top" "_law_top" (defArgs s__law_top) (defBody s__law_top) (defScope s__law_top) .none kV__law_top dc__law_top pm__law_top an__law_top cd__law_top ct__law_top), sl__law_top⟩) (c__law_top : PySem.W.codeIn K cd__law_top "_law_top" = true) (k__law_top : PySem.W.keepIn K (.ref f__law_top) = true)
    (a__law_right : PySem.W.nsIn K mainGlobals "_law_right" = some (some (.ref f__law_right)))
    (l__law_right : K.lookup f__law_right = some ⟨oc__law_right, od__law_right, .func (PySem.W.fnOf "_law_right" "_law_right" (defArgs s__law_right) (defBody s__law_right) (defScope s__law_right) .none kV__law_right dc__law_right pm__law_right an__law_right cd__law_right ct__law_right), sl__law_right⟩) (c__law_right : PySem.W.codeIn K cd__law_right "_law_right" = true) (k__law_right : PySem.W.keepIn K (.ref f__law_right) = true)
    (a__law_pot : PySem.W.nsIn K mainGlobals "_law_pot" = some (some (.ref f__law_pot)))
    (l__law_pot : K.lookup f__law_pot = some ⟨oc__law_pot, od__law_pot, .func (PySem.W.fnOf "_law_pot" "_law_pot" (defArgs s__law_pot) (defBody s__law_pot) (defScope s__law_pot) .none kV__law_pot dc__law_pot pm__law_pot an__law_pot cd__law_pot ct__law_pot), sl__law_pot⟩) (c__law_pot : PySem.W.codeIn K cd__law_pot "_law_pot" = true) (k__law_pot : PySem.W.keepIn K (.ref f__law_pot) = true)
    (a_law : PySem.W.nsIn K mainGlobals "law" = some (some (.ref f_law)))
    (l_law : K.lookup f_law = some ⟨oc_law, od_law, .func (PySem.W.fnOf "law" "law" (defArgs s_law) (defBody s_law) (defScope s_law) .none kV_law dc_law pm_law an_law cd_law ct_law), sl_law⟩) (c_law : PySem.W.codeIn K cd_law "law" = true) (k_law : PySem.W.keepIn K (.ref f_law) = true)
    (a_Spots : PySem.W.nsIn K mainGlobals "Spots" = some (some (.ref C_Spots)))
    (a_Spots_init : PySem.W.findIn K (.ref C_Spots) "__init__" = some (some (.ref f_Spots_init))) (i_Spots_init : PySem.W.isFn K (.ref f_Spots_init) = true)
    (l_Spots_init : K.lookup f_Spots_init = some ⟨oc_Spots_init, od_Spots_init, .func (PySem.W.fnOf "__init__" "Spots.__init__" (defArgs s_Spots_init) (defBody s_Spots_init) (defScope s_Spots_init) .none kV_Spots_init dc_Spots_init pm_Spots_init an_Spots_init cd_Spots_init ct_Spots_init), sl_Spots_init⟩) (c_Spots_init : PySem.W.codeIn K cd_Spots_init "Spots.__init__" = true) (k_Spots_init : PySem.W.keepIn K (.ref f_Spots_init) = true)
    (a_Spots___eq__ : PySem.W.findIn K (.ref C_Spots) "__eq__" = some (some (.ref f_Spots___eq__))) (i_Spots___eq__ : PySem.W.isFn K (.ref f_Spots___eq__) = true)
    (l_Spots___eq__ : K.lookup f_Spots___eq__ = some ⟨oc_Spots___eq__, od_Spots___eq__, .func (PySem.W.fnOf "__eq__" "Spots.__eq__" (defArgs s_Spots___eq__) (defBody s_Spots___eq__) (defScope s_Spots___eq__) .none kV_Spots___eq__ dc_Spots___eq__ pm_Spots___eq__ an_Spots___eq__ cd_Spots___eq__ ct_Spots___eq__), sl_Spots___eq__⟩) (c_Spots___eq__ : PySem.W.codeIn K cd_Spots___eq__ "Spots.__eq__" = true) (k_Spots___eq__ : PySem.W.keepIn K (.ref f_Spots___eq__) = true)
    (a_Spots_points : PySem.W.findIn K (.ref C_Spots) "points" = some (some (.ref f_Spots_points))) (i_Spots_points : PySem.W.isFn K (.ref f_Spots_points) = true)
    (l_Spots_points : K.lookup f_Spots_points = some ⟨oc_Spots_points, od_Spots_points, .func (PySem.W.fnOf "points" "Spots.points" (defArgs s_Spots_points) (defBody s_Spots_points) (defScope s_Spots_points) .none kV_Spots_points dc_Spots_points pm_Spots_points an_Spots_points cd_Spots_points ct_Spots_points), sl_Spots_points⟩) (c_Spots_points : PySem.W.codeIn K cd_Spots_points "Spots.points" = true) (k_Spots_points : PySem.W.keepIn K (.ref f_Spots_points) = true)
    (pg_Spots : PySem.W.plainGet K C_Spots Str.empty = true) (hd_Spots : PySem.W.hasDictIn K C_Spots = true) (po_Spots : PySem.W.plainOver K C_Spots = true) (sa_Spots : PySem.W.findIn K (.ref C_Spots) "__setattr__" = some (some (.builtin "object.__setattr__"))) (mk_Spots : PySem.W.makesIn K C_Spots = true) (kc_Spots : PySem.W.keepIn K (.ref C_Spots) = true)
    (n_Spots_points : PySem.W.findIn K (.ref C_Spots) "_points" = some none)
    (v_MOST_PLACES : PySem.W.nsIn K mainGlobals "MOST_PLACES" = some (some (.int 9 t_MOST_PLACES)))
    (v_PRIME : PySem.W.nsIn K mainGlobals "PRIME" = some (some (.int 2305843009213693951 t_PRIME)))
    (v_MOST_END : PySem.W.nsIn K mainGlobals "MOST_END" = some (some (.int 8 t_MOST_END)))
    (v_MOST_SUM : PySem.W.nsIn K mainGlobals "MOST_SUM" = some (some (.int 24 t_MOST_SUM)))
    (v_MOST_POINTS : PySem.W.nsIn K mainGlobals "MOST_POINTS" = some (some (.int 24 t_MOST_POINTS)))
    (v_MOST_CONDITIONS_DEGREE : PySem.W.nsIn K mainGlobals "MOST_CONDITIONS_DEGREE" = some (some (.int 9 t_MOST_CONDITIONS_DEGREE)))
    (v_gcd : PySem.W.nsIn K mainGlobals "gcd" = some (some (.builtin "math.gcd")))
    (z_isinstance : PySem.W.nsIn K mainGlobals "isinstance" = some none)
    (z_int : PySem.W.nsIn K mainGlobals "int" = some none)
    (z_bool : PySem.W.nsIn K mainGlobals "bool" = some none)
    (z_list : PySem.W.nsIn K mainGlobals "list" = some none)
    (z_tuple : PySem.W.nsIn K mainGlobals "tuple" = some none)
    (z_str : PySem.W.nsIn K mainGlobals "str" = some none)
    (z_dict : PySem.W.nsIn K mainGlobals "dict" = some none)
    (z_len : PySem.W.nsIn K mainGlobals "len" = some none)
    (z_all : PySem.W.nsIn K mainGlobals "all" = some none)
    (z_any : PySem.W.nsIn K mainGlobals "any" = some none)
    (z_abs : PySem.W.nsIn K mainGlobals "abs" = some none)
    (z_max : PySem.W.nsIn K mainGlobals "max" = some none)
    (z_min : PySem.W.nsIn K mainGlobals "min" = some none)
    (z_sum : PySem.W.nsIn K mainGlobals "sum" = some none)
    (z_divmod : PySem.W.nsIn K mainGlobals "divmod" = some none)
    (z_range : PySem.W.nsIn K mainGlobals "range" = some none)
    (z_repr : PySem.W.nsIn K mainGlobals "repr" = some none)
    (z_enumerate : PySem.W.nsIn K mainGlobals "enumerate" = some none)
    (z_sorted : PySem.W.nsIn K mainGlobals "sorted" = some none)
    (z_zip : PySem.W.nsIn K mainGlobals "zip" = some none)
    (xcl_Spots : PySem.W.clsIn K C_Spots = some cd_Spots)
    (xha_Spots : PySem.W.findIn K (.ref C_Spots) "__class__" = some (some (.builtin "object.__class__")))
    (xhn_Spots : PySem.W.specialIn K (.builtin "object.__class__") "__get__" = some (some (.builtin "getset_descriptor.__get__")))
    (xtk_Spots : PySem.W.takesIn K (.builtin "object.__class__") = some true)
    (xmr_Spots : PySem.W.mroIn K C_Spots (.type "object") = some true)
    (xty_Spots : PySem.W.typeIn K (.ref C_Spots) = some (.type "type"))
    (xsint_Spots : PySem.W.subIn K (.type "int") (.ref C_Spots) = some false)
    (xsbool_Spots : PySem.W.subIn K (.type "bool") (.ref C_Spots) = some false)
    (xslist_Spots : PySem.W.subIn K (.type "list") (.ref C_Spots) = some false)
    (xstuple_Spots : PySem.W.subIn K (.type "tuple") (.ref C_Spots) = some false)
    (xsstr_Spots : PySem.W.subIn K (.type "str") (.ref C_Spots) = some false)
    (xsdict_Spots : PySem.W.subIn K (.type "dict") (.ref C_Spots) = some false)
    (xsNoneType_Spots : PySem.W.subIn K (.type "NoneType") (.ref C_Spots) = some false)
    (xl_Spots : K.lookup C_Spots = some (excClassObj nm_Spots q_Spots C_Spots N_Spots bs_Spots [.type "object"] true sn_Spots sub_Spots ab_Spots col_Spots dd_Spots k0_Spots k1_Spots k2_Spots k3_Spots k5_Spots newId_Spots))
    (xN_Spots : K.lookup N_Spots = some ⟨oN_Spots, dN_Spots, .dict es_Spots nN_Spots, slN_Spots⟩)
    (xq_Spots : (es_Spots.toList.all fun e => match e.key with | .str _ _ => true | _ => false) = true)
    (xe_Spots : PySem.W.nsIn K N_Spots "__eq__" = some (some (.ref f_Spots___eq__)))
    (xn_Spots : PySem.W.nsIn K N_Spots "__ne__" = some none)
    (a_Spots_size : PySem.W.findIn K (.ref C_Spots) "size" = some (some (.ref p_Spots_size)))
    (g_Spots_size : PySem.W.specialIn K (.ref p_Spots_size) "__get__" = some (some (.builtin "property.__get__")))
    (t_Spots_size : PySem.W.takesIn K (.ref p_Spots_size) = some true)
    (r_Spots_size : PySem.W.recIn K p_Spots_size "property" = some (.ref f_Spots_size :: rest_Spots_size))
    (l_Spots_size : K.lookup f_Spots_size = some ⟨oc_Spots_size, od_Spots_size, .func (PySem.W.fnOf "size" "Spots.size" (defArgs s_Spots_size) (defBody s_Spots_size) (defScope s_Spots_size) .none kV_Spots_size dc_Spots_size pm_Spots_size an_Spots_size cd_Spots_size ct_Spots_size), sl_Spots_size⟩)
    (c_Spots_size : PySem.W.codeIn K cd_Spots_size "Spots.size" = true)
    (k_Spots_size : PySem.W.keepIn K (.ref f_Spots_size) = true) :
    ∃ fd : FuncData, (∀ (s : Shared) (v : Value), BindsTo s fd ⟨[v], []⟩ [("_law_script", v)]) ∧ ∀ base : Heap, K.In base → base.Ns mainGlobals mg → FnV l.prog w K mg base 10 fa fd ["_law_script"] (sp_lawV K) := by
  have e := hfa.symm.trans (PySem.W.mg_of X G a_law)
  cases e
  have Fu__law_draw := fun_mk (st := s__law_draw) l__law_draw c__law_draw k__law_draw
  have b__law_draw := Fu__law_draw.binds (ps := ["_law_pot_here", "_law_size"]) fun _ _ _ _ _ _ us hl => match us, hl with | [_, _], _ => rfl
  have Fu__law_row := fun_mk (st := s__law_row) l__law_row c__law_row k__law_row
  have b__law_row := Fu__law_row.binds (ps := ["_law_pot_here", "_law_most"]) fun _ _ _ _ _ _ us hl => match us, hl with | [_, _], _ => rfl
  have Fu__law_passed := fun_mk (st := s__law_passed) l__law_passed c__law_passed k__law_passed
  have b__law_passed := Fu__law_passed.binds (ps := ["_law_pot_here", "_law_numbers"]) fun _ _ _ _ _ _ us hl => match us, hl with | [_, _], _ => rfl
  have Fu__law_points := fun_mk (st := s__law_points) l__law_points c__law_points k__law_points
  have b__law_points := Fu__law_points.binds (ps := ["_law_numbers"]) fun _ _ _ _ _ _ us hl => match us, hl with | [_], _ => rfl
  have Fu__law_pick := fun_mk (st := s__law_pick) l__law_pick c__law_pick k__law_pick
  have b__law_pick := Fu__law_pick.binds (ps := ["_law_pot_here", "_law_some"]) fun _ _ _ _ _ _ us hl => match us, hl with | [_, _], _ => rfl
  have Fu_is_list := fun_mk (st := s_is_list) l_is_list c_is_list k_is_list
  have b_is_list := Fu_is_list.binds (ps := ["value"]) fun _ _ _ _ _ _ us hl => match us, hl with | [_], _ => rfl
  have Fu_is_integer := fun_mk (st := s_is_integer) l_is_integer c_is_integer k_is_integer
  have b_is_integer := Fu_is_integer.binds (ps := ["value"]) fun _ _ _ _ _ _ us hl => match us, hl with | [_], _ => rfl
  have Fu_is_count := fun_mk (st := s_is_count) l_is_count c_is_count k_is_count
  have b_is_count := Fu_is_count.binds (ps := ["value"]) fun _ _ _ _ _ _ us hl => match us, hl with | [_], _ => rfl
  have Fu_is_counts := fun_mk (st := s_is_counts) l_is_counts c_is_counts k_is_counts
  have b_is_counts := Fu_is_counts.binds (ps := ["value"]) fun _ _ _ _ _ _ us hl => match us, hl with | [_], _ => rfl
  have Fu_first_fault := fun_mk (st := s_first_fault) l_first_fault c_first_fault k_first_fault
  have b_first_fault := Fu_first_fault.binds (ps := ["counts"]) fun _ _ _ _ _ _ us hl => match us, hl with | [_], _ => rfl
  have Fu_is_row := fun_mk (st := s_is_row) l_is_row c_is_row k_is_row
  have b_is_row := Fu_is_row.binds (ps := ["value"]) fun _ _ _ _ _ _ us hl => match us, hl with | [_], _ => rfl
  have Fu_check_row := fun_mk (st := s_check_row) l_check_row c_check_row k_check_row
  have b_check_row := Fu_check_row.binds (ps := ["row"]) fun _ _ _ _ _ _ us hl => match us, hl with | [_], _ => rfl
  have Fu_is_three := fun_mk (st := s_is_three) l_is_three c_is_three k_is_three
  have b_is_three := Fu_is_three.binds (ps := ["value"]) fun _ _ _ _ _ _ us hl => match us, hl with | [_], _ => rfl
  have Fu_is_point := fun_mk (st := s_is_point) l_is_point c_is_point k_is_point
  have b_is_point := Fu_is_point.binds (ps := ["value"]) fun _ _ _ _ _ _ us hl => match us, hl with | [_], _ => rfl
  have Fu_divisor := fun_mk (st := s_divisor) l_divisor c_divisor k_divisor
  have b_divisor := Fu_divisor.binds (ps := ["numbers"]) fun _ _ _ _ _ _ us hl => match us, hl with | [_], _ => rfl
  have Fu_plain := fun_mk (st := s_plain) l_plain c_plain k_plain
  have b_plain := Fu_plain.binds (ps := ["numbers"]) fun _ _ _ _ _ _ us hl => match us, hl with | [_], _ => rfl
  have Fu_told_point := fun_mk (st := s_told_point) l_told_point c_told_point k_told_point
  have b_told_point := Fu_told_point.binds (ps := ["point"]) fun _ _ _ _ _ _ us hl => match us, hl with | [_], _ => rfl
  have Fu_stair := fun_mk (st := s_stair) l_stair c_stair k_stair
  have b_stair := Fu_stair.binds (ps := ["row"]) fun _ _ _ _ _ _ us hl => match us, hl with | [_], _ => rfl
  have Fu_check_spots := fun_mk (st := s_check_spots) l_check_spots c_check_spots k_check_spots
  have b_check_spots := Fu_check_spots.binds (ps := ["spots"]) fun _ _ _ _ _ _ us hl => match us, hl with | [_], _ => rfl
  have Fu_dot := fun_mk (st := s_dot) l_dot c_dot k_dot
  have b_dot := Fu_dot.binds (ps := ["numbers", "others"]) fun _ _ _ _ _ _ us hl => match us, hl with | [_, _], _ => rfl
  have Fu_crossed := fun_mk (st := s_crossed) l_crossed c_crossed k_crossed
  have b_crossed := Fu_crossed.binds (ps := ["one", "other"]) fun _ _ _ _ _ _ us hl => match us, hl with | [_, _], _ => rfl
  have Fu_determinant := fun_mk (st := s_determinant) l_determinant c_determinant k_determinant
  have b_determinant := Fu_determinant.binds (ps := ["rows"]) fun _ _ _ _ _ _ us hl => match us, hl with | [_], _ => rfl
  have Fu_is_three_by_three := fun_mk (st := s_is_three_by_three) l_is_three_by_three c_is_three_by_three k_is_three_by_three
  have b_is_three_by_three := Fu_is_three_by_three.binds (ps := ["value"]) fun _ _ _ _ _ _ us hl => match us, hl with | [_], _ => rfl
  have Fu_check_table := fun_mk (st := s_check_table) l_check_table c_check_table k_check_table
  have b_check_table := Fu_check_table.binds (ps := ["table"]) fun _ _ _ _ _ _ us hl => match us, hl with | [_], _ => rfl
  have Fu_led := fun_mk (st := s_led) l_led c_led k_led
  have b_led := Fu_led.binds (ps := ["table", "point"]) fun _ _ _ _ _ _ us hl => match us, hl with | [_, _], _ => rfl
  have Fu_moved := fun_mk (st := s_moved) l_moved c_moved k_moved
  have b_moved := Fu_moved.binds (ps := ["spots", "table"]) fun _ _ _ _ _ _ us hl => match us, hl with | [_, _], _ => rfl
  have Fu_check_degree := fun_mk (st := s_check_degree) l_check_degree c_check_degree k_check_degree
  have b_check_degree := Fu_check_degree.binds (ps := ["degree", "most"]) fun _ _ _ _ _ _ us hl => match us, hl with | [_, _], _ => rfl
  have Fu_check_spots_degree := fun_mk (st := s_check_spots_degree) l_check_spots_degree c_check_spots_degree k_check_spots_degree
  have b_check_spots_degree := Fu_check_spots_degree.binds (ps := ["spots", "degree"]) fun _ _ _ _ _ _ us hl => match us, hl with | [_, _], _ => rfl
  have Fu_first_place := fun_mk (st := s_first_place) l_first_place c_first_place k_first_place
  have b_first_place := Fu_first_place.binds (ps := ["rows", "prime"]) fun _ _ _ _ _ _ us hl => match us, hl with | [_, _], _ => rfl
  have Fu_cleared := fun_mk (st := s_cleared) l_cleared c_cleared k_cleared
  have b_cleared := Fu_cleared.binds (ps := ["row", "pivot", "last", "prime"]) fun _ _ _ _ _ _ us hl => match us, hl with | [_, _, _, _], _ => rfl
  have Fu_columns_by := fun_mk (st := s_columns_by) l_columns_by c_columns_by k_columns_by
  have b_columns_by := Fu_columns_by.binds (ps := ["rows", "prime"]) fun _ _ _ _ _ _ us hl => match us, hl with | [_, _], _ => rfl
  have Fu_independent_columns := fun_mk (st := s_independent_columns) l_independent_columns c_independent_columns k_independent_columns
  have b_independent_columns := Fu_independent_columns.binds (ps := ["rows"]) fun _ _ _ _ _ _ us hl => match us, hl with | [_], _ => rfl
  have Fu_rank := fun_mk (st := s_rank) l_rank c_rank k_rank
  have b_rank := Fu_rank.binds (ps := ["rows"]) fun _ _ _ _ _ _ us hl => match us, hl with | [_], _ => rfl
  have Fu_powers := fun_mk (st := s_powers) l_powers c_powers k_powers
  have b_powers := Fu_powers.binds (ps := ["number", "most"]) fun _ _ _ _ _ _ us hl => match us, hl with | [_, _], _ => rfl
  have Fu_worths_of := fun_mk (st := s_worths_of) l_worths_of c_worths_of k_worths_of
  have b_worths_of := Fu_worths_of.binds (ps := ["triples", "degree", "numbers"]) fun _ _ _ _ _ _ us hl => match us, hl with | [_, _, _], _ => rfl
  have Fu_triples_of := fun_mk (st := s_triples_of) l_triples_of c_triples_of k_triples_of
  have b_triples_of := Fu_triples_of.binds (ps := ["degree"]) fun _ _ _ _ _ _ us hl => match us, hl with | [_], _ => rfl
  have Fu_condition_rows := fun_mk (st := s_condition_rows) l_condition_rows c_condition_rows k_condition_rows
  have b_condition_rows := Fu_condition_rows.binds (ps := ["spots", "degree"]) fun _ _ _ _ _ _ us hl => match us, hl with | [_, _], _ => rfl
  have Fu_conditions := fun_mk (st := s_conditions) l_conditions c_conditions k_conditions
  have b_conditions := Fu_conditions.binds (ps := ["spots", "degree"]) fun _ _ _ _ _ _ us hl => match us, hl with | [_, _], _ => rfl
  have Fu_rising_counts := fun_mk (st := s_rising_counts) l_rising_counts c_rising_counts k_rising_counts
  have b_rising_counts := Fu_rising_counts.binds (ps := ["spots"]) fun _ _ _ _ _ _ us hl => match us, hl with | [_], _ => rfl
  have Fu_numbers_of := fun_mk (st := s_numbers_of) l_numbers_of c_numbers_of k_numbers_of
  have b_numbers_of := Fu_numbers_of.binds (ps := ["spots"]) fun _ _ _ _ _ _ us hl => match us, hl with | [_], _ => rfl
  have Fu_row := fun_mk (st := s_row) l_row c_row k_row
  have b_row := Fu_row.binds (ps := ["spots"]) fun _ _ _ _ _ _ us hl => match us, hl with | [_], _ => rfl
  have Fu_end := fun_mk (st := s_end) l_end c_end k_end
  have b_end := Fu_end.binds (ps := ["spots"]) fun _ _ _ _ _ _ us hl => match us, hl with | [_], _ => rfl
  have Fu_count_through := fun_mk (st := s_count_through) l_count_through c_count_through k_count_through
  have b_count_through := Fu_count_through.binds (ps := ["spots", "degree"]) fun _ _ _ _ _ _ us hl => match us, hl with | [_, _], _ => rfl
  have Fu_top := fun_mk (st := s_top) l_top c_top k_top
  have b_top := Fu_top.binds (ps := ["spots"]) fun _ _ _ _ _ _ us hl => match us, hl with | [_], _ => rfl
  have Fu__law_top := fun_mk (st := s__law_top) l__law_top c__law_top k__law_top
  have b__law_top := Fu__law_top.binds (ps := ["_law_numbers"]) fun _ _ _ _ _ _ us hl => match us, hl with | [_], _ => rfl
  have Fu__law_right := fun_mk (st := s__law_right) l__law_right c__law_right k__law_right
  have b__law_right := Fu__law_right.binds (ps := ["_law_pot_here"]) fun _ _ _ _ _ _ us hl => match us, hl with | [_], _ => rfl
  have Fu__law_pot := fun_mk (st := s__law_pot) l__law_pot c__law_pot k__law_pot
  have b__law_pot := Fu__law_pot.binds (ps := ["_law_script", "_law_k"]) fun _ _ _ _ _ _ us hl => match us, hl with | [_, _], _ => rfl
  have Fu_law := fun_mk (st := s_law) l_law c_law k_law
  have Fu_Spots_init := fun_mk (st := s_Spots_init) l_Spots_init c_Spots_init k_Spots_init
  have b_Spots_init := Fu_Spots_init.binds (ps := ["self", "points"]) fun _ _ _ _ _ _ us hl => match us, hl with | [_, _], _ => rfl
  have Fu_Spots___eq__ := fun_mk (st := s_Spots___eq__) l_Spots___eq__ c_Spots___eq__ k_Spots___eq__
  have b_Spots___eq__ := Fu_Spots___eq__.binds (ps := ["self", "other"]) fun _ _ _ _ _ _ us hl => match us, hl with | [_, _], _ => rfl
  have Fu_Spots_points := fun_mk (st := s_Spots_points) l_Spots_points c_Spots_points k_Spots_points
  have b_Spots_points := Fu_Spots_points.binds (ps := ["self"]) fun _ _ _ _ _ _ us hl => match us, hl with | [_], _ => rfl
  have B : Bt mg := ⟨PySem.W.mg_none_of X G z_isinstance, PySem.W.mg_none_of X G z_int, PySem.W.mg_none_of X G z_bool, PySem.W.mg_none_of X G z_list, PySem.W.mg_none_of X G z_tuple, PySem.W.mg_none_of X G z_str, PySem.W.mg_none_of X G z_dict, PySem.W.mg_none_of X G z_len, PySem.W.mg_none_of X G z_all, PySem.W.mg_none_of X G z_any, PySem.W.mg_none_of X G z_abs, PySem.W.mg_none_of X G z_max, PySem.W.mg_none_of X G z_min, PySem.W.mg_none_of X G z_sum, PySem.W.mg_none_of X G z_divmod, PySem.W.mg_none_of X G z_range, PySem.W.mg_none_of X G z_repr, PySem.W.mg_none_of X G z_enumerate, PySem.W.mg_none_of X G z_sorted, PySem.W.mg_none_of X G z_zip⟩
  have m_MOST_PLACES := PySem.W.mg_of X G v_MOST_PLACES
  have m_PRIME := PySem.W.mg_of X G v_PRIME
  have m_MOST_END := PySem.W.mg_of X G v_MOST_END
  have m_MOST_SUM := PySem.W.mg_of X G v_MOST_SUM
  have m_MOST_POINTS := PySem.W.mg_of X G v_MOST_POINTS
  have m_MOST_CONDITIONS_DEGREE := PySem.W.mg_of X G v_MOST_CONDITIONS_DEGREE
  have hG := PySem.W.mg_of X G v_gcd
  have T_Spots : CV K mg "Spots" ["_points"] := ⟨C_Spots, PySem.W.mg_of X G a_Spots, ⟨pg_Spots, hd_Spots, po_Spots, sa_Spots⟩, fun f hf => by
    simp only [List.mem_cons, List.not_mem_nil, or_false] at hf
    rcases hf with rfl <;> assumption⟩
  have m_Spots := PySem.W.mg_of X G a_Spots
  have IC_Spots : Ic K mg "Spots" := ic_mk (PySem.W.mg_of X G a_Spots) ⟨pg_Spots, hd_Spots, po_Spots, sa_Spots⟩ xha_Spots xhn_Spots xtk_Spots xmr_Spots xcl_Spots xty_Spots xsint_Spots xsbool_Spots xslist_Spots xstuple_Spots xsstr_Spots xsdict_Spots xsNoneType_Spots
  have Fu_Spots_size := fun_mk (st := s_Spots_size) l_Spots_size c_Spots_size k_Spots_size
  have b_Spots_size := Fu_Spots_size.binds (ps := ["self"]) fun _ _ _ _ _ _ us hl => match us, hl with | [_], _ => rfl
  refine ⟨PySem.W.fnOf "law" "law" (defArgs s_law) (defBody s_law) (defScope s_law) .none kV_law dc_law pm_law an_law cd_law ct_law, fun s v => .of_eq rfl, fun base _ _ => ?_⟩
  have D__law_draw : Dv l.prog w K mg base 1 "_law_draw" s__law_draw ["_law_pot_here", "_law_size"] F__law_draw := ⟨f__law_draw, _, Fu__law_draw, PySem.W.mg_of X G a__law_draw, b__law_draw, ok__law_draw B Fu__law_draw⟩
  have D__law_row : Dv l.prog w K mg base 2 "_law_row" s__law_row ["_law_pot_here", "_law_most"] F__law_row := ⟨f__law_row, _, Fu__law_row, PySem.W.mg_of X G a__law_row, b__law_row, ok__law_row B D__law_draw Fu__law_row⟩
  have D__law_passed : Dv l.prog w K mg base 2 "_law_passed" s__law_passed ["_law_pot_here", "_law_numbers"] F__law_passed := ⟨f__law_passed, _, Fu__law_passed, PySem.W.mg_of X G a__law_passed, b__law_passed, ok__law_passed B D__law_draw Fu__law_passed⟩
  have D__law_points : Dv l.prog w K mg base 1 "_law_points" s__law_points ["_law_numbers"] F__law_points := ⟨f__law_points, _, Fu__law_points, PySem.W.mg_of X G a__law_points, b__law_points, ok__law_points B Fu__law_points⟩
  have D__law_pick : Dv l.prog w K mg base 2 "_law_pick" s__law_pick ["_law_pot_here", "_law_some"] F__law_pick := ⟨f__law_pick, _, Fu__law_pick, PySem.W.mg_of X G a__law_pick, b__law_pick, ok__law_pick B D__law_draw Fu__law_pick⟩
  have D_is_list : Dv l.prog w K mg base 1 "is_list" s_is_list ["value"] F_is_list := ⟨f_is_list, _, Fu_is_list, PySem.W.mg_of X G a_is_list, b_is_list, ok_is_list B Fu_is_list⟩
  have D_is_integer : Dv l.prog w K mg base 1 "is_integer" s_is_integer ["value"] F_is_integer := ⟨f_is_integer, _, Fu_is_integer, PySem.W.mg_of X G a_is_integer, b_is_integer, ok_is_integer B Fu_is_integer⟩
  have D_is_count : Dv l.prog w K mg base 2 "is_count" s_is_count ["value"] F_is_count := ⟨f_is_count, _, Fu_is_count, PySem.W.mg_of X G a_is_count, b_is_count, ok_is_count B D_is_integer Fu_is_count⟩
  have D_is_counts : Dv l.prog w K mg base 3 "is_counts" s_is_counts ["value"] F_is_counts := ⟨f_is_counts, _, Fu_is_counts, PySem.W.mg_of X G a_is_counts, b_is_counts, ok_is_counts B D_is_count D_is_list Fu_is_counts⟩
  have D_first_fault : Dv l.prog w K mg base 1 "first_fault" s_first_fault ["counts"] F_first_fault := ⟨f_first_fault, _, Fu_first_fault, PySem.W.mg_of X G a_first_fault, b_first_fault, ok_first_fault B m_MOST_PLACES m_MOST_SUM Fu_first_fault⟩
  have D_is_row : Dv l.prog w K mg base 4 "is_row" s_is_row ["value"] F_is_row := ⟨f_is_row, _, Fu_is_row, PySem.W.mg_of X G a_is_row, b_is_row, ok_is_row B D_first_fault D_is_counts Fu_is_row⟩
  have D_check_row : Dv l.prog w K mg base 5 "check_row" s_check_row ["row"] F_check_row := ⟨f_check_row, _, Fu_check_row, PySem.W.mg_of X G a_check_row, b_check_row, ok_check_row B D_is_row Fu_check_row⟩
  have D_is_three : Dv l.prog w K mg base 2 "is_three" s_is_three ["value"] F_is_three := ⟨f_is_three, _, Fu_is_three, PySem.W.mg_of X G a_is_three, b_is_three, ok_is_three B D_is_integer D_is_list Fu_is_three⟩
  have D_is_point : Dv l.prog w K mg base 3 "is_point" s_is_point ["value"] F_is_point := ⟨f_is_point, _, Fu_is_point, PySem.W.mg_of X G a_is_point, b_is_point, ok_is_point B D_is_three Fu_is_point⟩
  have D_divisor : Dv l.prog w K mg base 1 "divisor" s_divisor ["numbers"] F_divisor := ⟨f_divisor, _, Fu_divisor, PySem.W.mg_of X G a_divisor, b_divisor, ok_divisor B hG Fu_divisor⟩
  have D_plain : Dv l.prog w K mg base 2 "plain" s_plain ["numbers"] F_plain := ⟨f_plain, _, Fu_plain, PySem.W.mg_of X G a_plain, b_plain, ok_plain B D_divisor Fu_plain⟩
  have D_told_point : Dv l.prog w K mg base 4 "told_point" s_told_point ["point"] F_told_point := ⟨f_told_point, _, Fu_told_point, PySem.W.mg_of X G a_told_point, b_told_point, ok_told_point B D_is_point D_plain Fu_told_point⟩
  have I_Spots : Iv l.prog w K mg base 5 "Spots" ["self", "points"] F_Spots_init := ⟨C_Spots, f_Spots_init, _, PySem.W.mg_of X G a_Spots, ⟨mk_Spots, a_Spots_init, i_Spots_init, kc_Spots⟩, b_Spots_init, ok_Spots_init B m_MOST_POINTS T_Spots D_is_list D_is_point D_told_point Fu_Spots_init⟩
  have D_stair : Dv l.prog w K mg base 7 "stair" s_stair ["row"] F_stair := ⟨f_stair, _, Fu_stair, PySem.W.mg_of X G a_stair, b_stair, ok_stair B D_check_row I_Spots Fu_stair⟩
  have NC_Spots : Nc l.prog w K mg base 1 "Spots" ["self", "other"] F_Spots___eq__ := ⟨C_Spots, f_Spots___eq__, _, PySem.W.mg_of X G a_Spots, ne_mk xl_Spots xN_Spots xq_Spots xe_Spots xn_Spots l_Spots___eq__ i_Spots___eq__, b_Spots___eq__, ok_Spots___eq__ B m_Spots T_Spots IC_Spots Fu_Spots___eq__⟩
  have D_check_spots : Dv l.prog w K mg base 1 "check_spots" s_check_spots ["spots"] F_check_spots := ⟨f_check_spots, _, Fu_check_spots, PySem.W.mg_of X G a_check_spots, b_check_spots, ok_check_spots B m_Spots IC_Spots Fu_check_spots⟩
  have D_dot : Dv l.prog w K mg base 1 "dot" s_dot ["numbers", "others"] F_dot := ⟨f_dot, _, Fu_dot, PySem.W.mg_of X G a_dot, b_dot, ok_dot B Fu_dot⟩
  have D_crossed : Dv l.prog w K mg base 1 "crossed" s_crossed ["one", "other"] F_crossed := ⟨f_crossed, _, Fu_crossed, PySem.W.mg_of X G a_crossed, b_crossed, ok_crossed B Fu_crossed⟩
  have D_determinant : Dv l.prog w K mg base 2 "determinant" s_determinant ["rows"] F_determinant := ⟨f_determinant, _, Fu_determinant, PySem.W.mg_of X G a_determinant, b_determinant, ok_determinant B D_crossed D_dot Fu_determinant⟩
  have D_is_three_by_three : Dv l.prog w K mg base 3 "is_three_by_three" s_is_three_by_three ["value"] F_is_three_by_three := ⟨f_is_three_by_three, _, Fu_is_three_by_three, PySem.W.mg_of X G a_is_three_by_three, b_is_three_by_three, ok_is_three_by_three B D_determinant D_is_list D_is_three Fu_is_three_by_three⟩
  have D_check_table : Dv l.prog w K mg base 4 "check_table" s_check_table ["table"] F_check_table := ⟨f_check_table, _, Fu_check_table, PySem.W.mg_of X G a_check_table, b_check_table, ok_check_table B D_is_three_by_three Fu_check_table⟩
  have D_led : Dv l.prog w K mg base 5 "led" s_led ["table", "point"] F_led := ⟨f_led, _, Fu_led, PySem.W.mg_of X G a_led, b_led, ok_led B D_check_table D_dot D_told_point Fu_led⟩
  have M_Spots_points : Mv l.prog w K mg base 1 "Spots" "points" ["self"] F_Spots_points := ⟨C_Spots, f_Spots_points, _, PySem.W.mg_of X G a_Spots, ⟨pg_Spots, hd_Spots, po_Spots, sa_Spots⟩, ⟨a_Spots_points, i_Spots_points, k_Spots_points⟩, b_Spots_points, ok_Spots_points B T_Spots Fu_Spots_points⟩
  have D_moved : Dv l.prog w K mg base 7 "moved" s_moved ["spots", "table"] F_moved := ⟨f_moved, _, Fu_moved, PySem.W.mg_of X G a_moved, b_moved, ok_moved B D_check_spots D_check_table D_led M_Spots_points I_Spots Fu_moved⟩
  have D_check_degree : Dv l.prog w K mg base 3 "check_degree" s_check_degree ["degree", "most"] F_check_degree := ⟨f_check_degree, _, Fu_check_degree, PySem.W.mg_of X G a_check_degree, b_check_degree, ok_check_degree B D_is_count Fu_check_degree⟩
  have D_check_spots_degree : Dv l.prog w K mg base 4 "check_spots_degree" s_check_spots_degree ["spots", "degree"] F_check_spots_degree := ⟨f_check_spots_degree, _, Fu_check_spots_degree, PySem.W.mg_of X G a_check_spots_degree, b_check_spots_degree, ok_check_spots_degree B m_MOST_CONDITIONS_DEGREE D_check_degree D_check_spots Fu_check_spots_degree⟩
  have D_first_place : Dv l.prog w K mg base 1 "first_place" s_first_place ["rows", "prime"] F_first_place := ⟨f_first_place, _, Fu_first_place, PySem.W.mg_of X G a_first_place, b_first_place, ok_first_place B Fu_first_place⟩
  have D_cleared : Dv l.prog w K mg base 1 "cleared" s_cleared ["row", "pivot", "last", "prime"] F_cleared := ⟨f_cleared, _, Fu_cleared, PySem.W.mg_of X G a_cleared, b_cleared, ok_cleared B Fu_cleared⟩
  have D_columns_by : Dv l.prog w K mg base 2 "columns_by" s_columns_by ["rows", "prime"] F_columns_by := ⟨f_columns_by, _, Fu_columns_by, PySem.W.mg_of X G a_columns_by, b_columns_by, ok_columns_by B D_cleared D_first_place Fu_columns_by⟩
  have D_independent_columns : Dv l.prog w K mg base 3 "independent_columns" s_independent_columns ["rows"] F_independent_columns := ⟨f_independent_columns, _, Fu_independent_columns, PySem.W.mg_of X G a_independent_columns, b_independent_columns, ok_independent_columns B m_PRIME D_columns_by Fu_independent_columns⟩
  have D_rank : Dv l.prog w K mg base 4 "rank" s_rank ["rows"] F_rank := ⟨f_rank, _, Fu_rank, PySem.W.mg_of X G a_rank, b_rank, ok_rank B D_independent_columns Fu_rank⟩
  have D_powers : Dv l.prog w K mg base 1 "powers" s_powers ["number", "most"] F_powers := ⟨f_powers, _, Fu_powers, PySem.W.mg_of X G a_powers, b_powers, ok_powers B Fu_powers⟩
  have D_worths_of : Dv l.prog w K mg base 2 "worths_of" s_worths_of ["triples", "degree", "numbers"] F_worths_of := ⟨f_worths_of, _, Fu_worths_of, PySem.W.mg_of X G a_worths_of, b_worths_of, ok_worths_of B D_powers Fu_worths_of⟩
  have D_triples_of : Dv l.prog w K mg base 1 "triples_of" s_triples_of ["degree"] F_triples_of := ⟨f_triples_of, _, Fu_triples_of, PySem.W.mg_of X G a_triples_of, b_triples_of, ok_triples_of B Fu_triples_of⟩
  have D_condition_rows : Dv l.prog w K mg base 3 "condition_rows" s_condition_rows ["spots", "degree"] F_condition_rows := ⟨f_condition_rows, _, Fu_condition_rows, PySem.W.mg_of X G a_condition_rows, b_condition_rows, ok_condition_rows B D_triples_of D_worths_of M_Spots_points Fu_condition_rows⟩
  have D_conditions : Dv l.prog w K mg base 5 "conditions" s_conditions ["spots", "degree"] F_conditions := ⟨f_conditions, _, Fu_conditions, PySem.W.mg_of X G a_conditions, b_conditions, ok_conditions B D_check_spots_degree D_condition_rows D_rank Fu_conditions⟩
  have P_Spots_size : Pv l.prog w K mg base 1 "Spots" "size" ["self"] F_Spots_size := pv_mk (PySem.W.mg_of X G a_Spots) ⟨pg_Spots, hd_Spots, po_Spots, sa_Spots⟩ xcl_Spots a_Spots_size g_Spots_size t_Spots_size r_Spots_size b_Spots_size (ok_Spots_size B T_Spots Fu_Spots_size)
  have D_rising_counts : Dv l.prog w K mg base 6 "rising_counts" s_rising_counts ["spots"] F_rising_counts := ⟨f_rising_counts, _, Fu_rising_counts, PySem.W.mg_of X G a_rising_counts, b_rising_counts, ok_rising_counts B m_MOST_END D_check_spots D_conditions P_Spots_size Fu_rising_counts⟩
  have D_numbers_of : Dv l.prog w K mg base 7 "numbers_of" s_numbers_of ["spots"] F_numbers_of := ⟨f_numbers_of, _, Fu_numbers_of, PySem.W.mg_of X G a_numbers_of, b_numbers_of, ok_numbers_of B D_rising_counts Fu_numbers_of⟩
  have D_row : Dv l.prog w K mg base 8 "row" s_row ["spots"] F_row := ⟨f_row, _, Fu_row, PySem.W.mg_of X G a_row, b_row, ok_row B D_numbers_of Fu_row⟩
  have D_end : Dv l.prog w K mg base 7 "end" s_end ["spots"] F_end := ⟨f_end, _, Fu_end, PySem.W.mg_of X G a_end, b_end, ok_end B D_rising_counts Fu_end⟩
  have D_count_through : Dv l.prog w K mg base 6 "count_through" s_count_through ["spots", "degree"] F_count_through := ⟨f_count_through, _, Fu_count_through, PySem.W.mg_of X G a_count_through, b_count_through, ok_count_through B D_conditions D_triples_of Fu_count_through⟩
  have D_top : Dv l.prog w K mg base 7 "top" s_top ["spots"] F_top := ⟨f_top, _, Fu_top, PySem.W.mg_of X G a_top, b_top, ok_top B D_check_spots D_count_through Fu_top⟩
  have D__law_top : Dv l.prog w K mg base 1 "_law_top" s__law_top ["_law_numbers"] F__law_top := ⟨f__law_top, _, Fu__law_top, PySem.W.mg_of X G a__law_top, b__law_top, ok__law_top B Fu__law_top⟩
  have D__law_right : Dv l.prog w K mg base 9 "_law_right" s__law_right ["_law_pot_here"] F__law_right := ⟨f__law_right, _, Fu__law_right, PySem.W.mg_of X G a__law_right, b__law_right, ok__law_right B m_Spots D__law_draw D__law_passed D__law_pick D__law_points D__law_row D__law_top D_conditions D_end D_is_row D_moved D_row D_stair D_top IC_Spots M_Spots_points NC_Spots P_Spots_size Fu__law_right⟩
  have D__law_pot : Dv l.prog w K mg base 1 "_law_pot" s__law_pot ["_law_script", "_law_k"] F__law_pot := ⟨f__law_pot, _, Fu__law_pot, PySem.W.mg_of X G a__law_pot, b__law_pot, ok__law_pot B Fu__law_pot⟩
  exact fn_law (ok_law B D__law_pot D__law_right Fu_law) law_true
end VE

open PySem PySem.W PyProof.Rows
set_option maxRecDepth 100000 in
set_option maxHeartbeats 0 in
theorem PySem.Challenge.cw_pointrows_k52_whole_stairs_have_their_ro_holds : PySem.Challenge.rw_pointrows_k52_whole_stairs_have_their_ro.Holds := by
  w_on; o_law; k_head; (case hw => w_witness2)
  k_fill
  refine VE.walk_V (l := PySem.Challenge.rw_pointrows_k52_whole_stairs_have_their_ro) (n := 63) (k := 10) (x := "_law_script") (sp := VE.sp_lawV) rfl (by decide) rfl ⟨rfl, by decide, by decide⟩ (fun w h Y => PySem.W.kIn_of Y) ?F (fun _ _ a ns hl _ hS => ⟨a, ns, rfl, hl, hS, fun _ => rfl⟩)
  case F =>
    intro w mg fa h KX G hmg
    refine' VE.all_mk KX G hmg ?a__law_draw ?l__law_draw ?c__law_draw ?k__law_draw ?a__law_row ?l__law_row ?c__law_row ?k__law_row ?a__law_passed ?l__law_passed ?c__law_passed ?k__law_passed ?a__law_points ?l__law_points ?c__law_points ?k__law_points ?a__law_pick ?l__law_pick ?c__law_pick ?k__law_pick ?a_is_list ?l_is_list ?c_is_list ?k_is_list ?a_is_integer ?l_is_integer ?c_is_integer ?k_is_integer ?a_is_count ?l_is_count ?c_is_count ?k_is_count ?a_is_counts ?l_is_counts ?c_is_counts ?k_is_counts ?a_first_fault ?l_first_fault ?c_first_fault ?k_first_fault ?a_is_row ?l_is_row ?c_is_row ?k_is_row ?a_check_row ?l_check_row ?c_check_row ?k_check_row ?a_is_three ?l_is_three ?c_is_three ?k_is_three ?a_is_point ?l_is_point ?c_is_point ?k_is_point ?a_divisor ?l_divisor ?c_divisor ?k_divisor ?a_plain ?l_plain ?c_plain ?k_plain ?a_told_point ?l_told_point ?c_told_point ?k_told_point ?a_stair ?l_stair ?c_stair ?k_stair ?a_check_spots ?l_check_spots ?c_check_spots ?k_check_spots ?a_dot ?l_dot ?c_dot ?k_dot ?a_crossed ?l_crossed ?c_crossed ?k_crossed ?a_determinant ?l_determinant ?c_determinant ?k_determinant ?a_is_three_by_three ?l_is_three_by_three ?c_is_three_by_three ?k_is_three_by_three ?a_check_table ?l_check_table ?c_check_table ?k_check_table ?a_led ?l_led ?c_led ?k_led ?a_moved ?l_moved ?c_moved ?k_moved ?a_check_degree ?l_check_degree ?c_check_degree ?k_check_degree ?a_check_spots_degree ?l_check_spots_degree ?c_check_spots_degree ?k_check_spots_degree ?a_first_place ?l_first_place ?c_first_place ?k_first_place ?a_cleared ?l_cleared ?c_cleared ?k_cleared ?a_columns_by ?l_columns_by ?c_columns_by ?k_columns_by ?a_independent_columns ?l_independent_columns ?c_independent_columns ?k_independent_columns ?a_rank ?l_rank ?c_rank ?k_rank ?a_powers ?l_powers ?c_powers ?k_powers ?a_worths_of ?l_worths_of ?c_worths_of ?k_worths_of ?a_triples_of ?l_triples_of ?c_triples_of ?k_triples_of ?a_condition_rows ?l_condition_rows ?c_condition_rows ?k_condition_rows ?a_conditions ?l_conditions ?c_conditions ?k_conditions ?a_rising_counts ?l_rising_counts ?c_rising_counts ?k_rising_counts ?a_numbers_of ?l_numbers_of ?c_numbers_of ?k_numbers_of ?a_row ?l_row ?c_row ?k_row ?a_end ?l_end ?c_end ?k_end ?a_count_through ?l_count_through ?c_count_through ?k_count_through ?a_top ?l_top ?c_top ?k_top ?a__law_top ?l__law_top ?c__law_top ?k__law_top ?a__law_right ?l__law_right ?c__law_right ?k__law_right ?a__law_pot ?l__law_pot ?c__law_pot ?k__law_pot ?a_law ?l_law ?c_law ?k_law ?a_Spots ?a_Spots_init ?i_Spots_init ?l_Spots_init ?c_Spots_init ?k_Spots_init ?a_Spots___eq__ ?i_Spots___eq__ ?l_Spots___eq__ ?c_Spots___eq__ ?k_Spots___eq__ ?a_Spots_points ?i_Spots_points ?l_Spots_points ?c_Spots_points ?k_Spots_points ?pg_Spots ?hd_Spots ?po_Spots ?sa_Spots ?mk_Spots ?kc_Spots ?n_Spots_points ?v_MOST_PLACES ?v_PRIME ?v_MOST_END ?v_MOST_SUM ?v_MOST_POINTS ?v_MOST_CONDITIONS_DEGREE ?v_gcd ?z_isinstance ?z_int ?z_bool ?z_list ?z_tuple ?z_str ?z_dict ?z_len ?z_all ?z_any ?z_abs ?z_max ?z_min ?z_sum ?z_divmod ?z_range ?z_repr ?z_enumerate ?z_sorted ?z_zip ?xcl_Spots ?xha_Spots ?xhn_Spots ?xtk_Spots ?xmr_Spots ?xty_Spots ?xsint_Spots ?xsbool_Spots ?xslist_Spots ?xstuple_Spots ?xsstr_Spots ?xsdict_Spots ?xsNoneType_Spots ?xl_Spots ?xN_Spots ?xq_Spots ?xe_Spots ?xn_Spots ?a_Spots_size ?g_Spots_size ?t_Spots_size ?r_Spots_size ?l_Spots_size ?c_Spots_size ?k_Spots_size
    (case a__law_draw => k_is)
    (case l__law_draw => k_is)
    (case c__law_draw => k_is)
    (case k__law_draw => k_is)
    (case a__law_row => k_is)
    (case l__law_row => k_is)
    (case c__law_row => k_is)
    (case k__law_row => k_is)
    (case a__law_passed => k_is)
    (case l__law_passed => k_is)
    (case c__law_passed => k_is)
    (case k__law_passed => k_is)
    (case a__law_points => k_is)
    (case l__law_points => k_is)
    (case c__law_points => k_is)
    (case k__law_points => k_is)
    (case a__law_pick => k_is)
    (case l__law_pick => k_is)
    (case c__law_pick => k_is)
    (case k__law_pick => k_is)
    (case a_is_list => k_is)
    (case l_is_list => k_is)
    (case c_is_list => k_is)
    (case k_is_list => k_is)
    (case a_is_integer => k_is)
    (case l_is_integer => k_is)
    (case c_is_integer => k_is)
    (case k_is_integer => k_is)
    (case a_is_count => k_is)
    (case l_is_count => k_is)
    (case c_is_count => k_is)
    (case k_is_count => k_is)
    (case a_is_counts => k_is)
    (case l_is_counts => k_is)
    (case c_is_counts => k_is)
    (case k_is_counts => k_is)
    (case a_first_fault => k_is)
    (case l_first_fault => k_is)
    (case c_first_fault => k_is)
    (case k_first_fault => k_is)
    (case a_is_row => k_is)
    (case l_is_row => k_is)
    (case c_is_row => k_is)
    (case k_is_row => k_is)
    (case a_check_row => k_is)
    (case l_check_row => k_is)
    (case c_check_row => k_is)
    (case k_check_row => k_is)
    (case a_is_three => k_is)
    (case l_is_three => k_is)
    (case c_is_three => k_is)
    (case k_is_three => k_is)
    (case a_is_point => k_is)
    (case l_is_point => k_is)
    (case c_is_point => k_is)
    (case k_is_point => k_is)
    (case a_divisor => k_is)
    (case l_divisor => k_is)
    (case c_divisor => k_is)
    (case k_divisor => k_is)
    (case a_plain => k_is)
    (case l_plain => k_is)
    (case c_plain => k_is)
    (case k_plain => k_is)
    (case a_told_point => k_is)
    (case l_told_point => k_is)
    (case c_told_point => k_is)
    (case k_told_point => k_is)
    (case a_stair => k_is)
    (case l_stair => k_is)
    (case c_stair => k_is)
    (case k_stair => k_is)
    (case a_check_spots => k_is)
    (case l_check_spots => k_is)
    (case c_check_spots => k_is)
    (case k_check_spots => k_is)
    (case a_dot => k_is)
    (case l_dot => k_is)
    (case c_dot => k_is)
    (case k_dot => k_is)
    (case a_crossed => k_is)
    (case l_crossed => k_is)
    (case c_crossed => k_is)
    (case k_crossed => k_is)
    (case a_determinant => k_is)
    (case l_determinant => k_is)
    (case c_determinant => k_is)
    (case k_determinant => k_is)
    (case a_is_three_by_three => k_is)
    (case l_is_three_by_three => k_is)
    (case c_is_three_by_three => k_is)
    (case k_is_three_by_three => k_is)
    (case a_check_table => k_is)
    (case l_check_table => k_is)
    (case c_check_table => k_is)
    (case k_check_table => k_is)
    (case a_led => k_is)
    (case l_led => k_is)
    (case c_led => k_is)
    (case k_led => k_is)
    (case a_moved => k_is)
    (case l_moved => k_is)
    (case c_moved => k_is)
    (case k_moved => k_is)
    (case a_check_degree => k_is)
    (case l_check_degree => k_is)
    (case c_check_degree => k_is)
    (case k_check_degree => k_is)
    (case a_check_spots_degree => k_is)
    (case l_check_spots_degree => k_is)
    (case c_check_spots_degree => k_is)
    (case k_check_spots_degree => k_is)
    (case a_first_place => k_is)
    (case l_first_place => k_is)
    (case c_first_place => k_is)
    (case k_first_place => k_is)
    (case a_cleared => k_is)
    (case l_cleared => k_is)
    (case c_cleared => k_is)
    (case k_cleared => k_is)
    (case a_columns_by => k_is)
    (case l_columns_by => k_is)
    (case c_columns_by => k_is)
    (case k_columns_by => k_is)
    (case a_independent_columns => k_is)
    (case l_independent_columns => k_is)
    (case c_independent_columns => k_is)
    (case k_independent_columns => k_is)
    (case a_rank => k_is)
    (case l_rank => k_is)
    (case c_rank => k_is)
    (case k_rank => k_is)
    (case a_powers => k_is)
    (case l_powers => k_is)
    (case c_powers => k_is)
    (case k_powers => k_is)
    (case a_worths_of => k_is)
    (case l_worths_of => k_is)
    (case c_worths_of => k_is)
    (case k_worths_of => k_is)
    (case a_triples_of => k_is)
    (case l_triples_of => k_is)
    (case c_triples_of => k_is)
    (case k_triples_of => k_is)
    (case a_condition_rows => k_is)
    (case l_condition_rows => k_is)
    (case c_condition_rows => k_is)
    (case k_condition_rows => k_is)
    (case a_conditions => k_is)
    (case l_conditions => k_is)
    (case c_conditions => k_is)
    (case k_conditions => k_is)
    (case a_rising_counts => k_is)
    (case l_rising_counts => k_is)
    (case c_rising_counts => k_is)
    (case k_rising_counts => k_is)
    (case a_numbers_of => k_is)
    (case l_numbers_of => k_is)
    (case c_numbers_of => k_is)
    (case k_numbers_of => k_is)
    (case a_row => k_is)
    (case l_row => k_is)
    (case c_row => k_is)
    (case k_row => k_is)
    (case a_end => k_is)
    (case l_end => k_is)
    (case c_end => k_is)
    (case k_end => k_is)
    (case a_count_through => k_is)
    (case l_count_through => k_is)
    (case c_count_through => k_is)
    (case k_count_through => k_is)
    (case a_top => k_is)
    (case l_top => k_is)
    (case c_top => k_is)
    (case k_top => k_is)
    (case a__law_top => k_is)
    (case l__law_top => k_is)
    (case c__law_top => k_is)
    (case k__law_top => k_is)
    (case a__law_right => k_is)
    (case l__law_right => k_is)
    (case c__law_right => k_is)
    (case k__law_right => k_is)
    (case a__law_pot => k_is)
    (case l__law_pot => k_is)
    (case c__law_pot => k_is)
    (case k__law_pot => k_is)
    (case a_law => k_is)
    (case l_law => k_is)
    (case c_law => k_is)
    (case k_law => k_is)
    (case a_Spots => k_is)
    (case a_Spots_init => k_is)
    (case i_Spots_init => k_is)
    (case l_Spots_init => k_is)
    (case c_Spots_init => k_is)
    (case k_Spots_init => k_is)
    (case a_Spots___eq__ => k_is)
    (case i_Spots___eq__ => k_is)
    (case l_Spots___eq__ => k_is)
    (case c_Spots___eq__ => k_is)
    (case k_Spots___eq__ => k_is)
    (case a_Spots_points => k_is)
    (case i_Spots_points => k_is)
    (case l_Spots_points => k_is)
    (case c_Spots_points => k_is)
    (case k_Spots_points => k_is)
    (case pg_Spots => k_is)
    (case hd_Spots => k_is)
    (case po_Spots => k_is)
    (case sa_Spots => k_is)
    (case mk_Spots => k_is)
    (case kc_Spots => k_is)
    (case n_Spots_points => k_is)
    (case v_MOST_PLACES => k_is)
    (case v_PRIME => k_is)
    (case v_MOST_END => k_is)
    (case v_MOST_SUM => k_is)
    (case v_MOST_POINTS => k_is)
    (case v_MOST_CONDITIONS_DEGREE => k_is)
    (case v_gcd => k_is)
    (case z_isinstance => k_is)
    (case z_int => k_is)
    (case z_bool => k_is)
    (case z_list => k_is)
    (case z_tuple => k_is)
    (case z_str => k_is)
    (case z_dict => k_is)
    (case z_len => k_is)
    (case z_all => k_is)
    (case z_any => k_is)
    (case z_abs => k_is)
    (case z_max => k_is)
    (case z_min => k_is)
    (case z_sum => k_is)
    (case z_divmod => k_is)
    (case z_range => k_is)
    (case z_repr => k_is)
    (case z_enumerate => k_is)
    (case z_sorted => k_is)
    (case z_zip => k_is)
    (case xcl_Spots => k_is)
    (case xha_Spots => k_is)
    (case xhn_Spots => k_is)
    (case xtk_Spots => k_is)
    (case xmr_Spots => k_is)
    (case xty_Spots => k_is)
    (case xsint_Spots => k_is)
    (case xsbool_Spots => k_is)
    (case xslist_Spots => k_is)
    (case xstuple_Spots => k_is)
    (case xsstr_Spots => k_is)
    (case xsdict_Spots => k_is)
    (case xsNoneType_Spots => k_is)
    (case xl_Spots => k_is)
    (case xN_Spots => k_is)
    (case xq_Spots => rfl)
    (case xe_Spots => k_is)
    (case xn_Spots => k_is)
    (case a_Spots_size => k_is)
    (case g_Spots_size => k_is)
    (case t_Spots_size => k_is)
    (case r_Spots_size => k_is)
    (case l_Spots_size => k_is)
    (case c_Spots_size => k_is)
    (case k_Spots_size => k_is)

