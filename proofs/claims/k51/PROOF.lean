import PyProof.Rows.All
import Wide.All
import OpenK.AllK
import Wide.FinOn
import HandS.ForMost
import HandS.Deep
import HandS.Gcd
import HandS.IsInst
import HandS.Wide
import HandS.WideBits
import HandS.FStrTup
import HandS.Walk
import KE.GoesEnum
import KE.GoesMore
import KE.GoesZip
import HandS.Iter
import KE.KUnpack
import HandS.Style
import PyProof.ReprRoads
import PySem.Challenge.RW_pointrows_k51_any_value_as_row
set_option Elab.async false
set_option linter.all false
set_option maxRecDepth 100000
set_option maxHeartbeats 4000000
namespace G0
open PySem PySem.Spec PyProof.Rows L2
/-! A def's promise where no repr is under way (the around's guards are empty): repr of data is then known. -/
structure FnG (P : Program) (w : World) (K : PySem.W.Frag) (mg : Str → Option Value) (base : Heap) (k : Nat) (f : Addr) (fd : FuncData) (ps : List Str) (sp : Sp) : Prop where
  len : ∀ vs H Q E, sp vs H Q E → vs.length = ps.length
  run : ∀ (A : Around) (outer : List Env) (s : Shared) (H : Hp) (args : Args) (us : List Value) (vs : List V) (Q : VK) (E : XK), A.guards = some [] → Room k A →
    Env0 P w K mg base A outer s H → BindsTo s fd args (ps.zip us) → Vals vs us → sp vs H Q E → codeAny (model P w) A (.call (.ref f) args) (CR CX0 outer P w H s Q E) s
theorem FnG.ofOk {P : Program} {w : World} {K : PySem.W.Frag} {mg : Str → Option Value} {base : Heap} {k : Nat} {f : Addr} {fd : FuncData} {ps : List Str} {sp : Sp} (F : FnOk P w K mg base CX0 k f fd ps sp) : FnG P w K mg base k f fd ps sp :=
  ⟨F.len, fun A outer s H args us vs Q E _ hr he hb hv hs => F.run A outer s H args us vs Q E hr he hb hv hs⟩
theorem FnG.mono {P : Program} {w : World} {K : PySem.W.Frag} {mg : Str → Option Value} {base : Heap} {j k : Nat} {f : Addr} {fd : FuncData} {ps : List Str} {sp : Sp} (F : FnG P w K mg base j f fd ps sp) (h : j ≤ k) : FnG P w K mg base k f fd ps sp :=
  ⟨F.len, fun A outer s H args us vs Q E hg hr => F.run A outer s H args us vs Q E hg (hr.mono h)⟩

section
variable {X : Cx} {k : Nat} {f : Addr} {fd : FuncData} {ps : List Str} {sp : Sp} {dvs : List V} {ds : List Value} {E : XK} {x : Str} {p pos : Pos} {e : Expr} {es : List Expr} {t : TA}
theorem run_g {pn : List (Addr × Obj)} {σ : L2.St} {H : Hp} {s : Shared} {Q : VK} {us : List Value} {vs : List V} (F : FnG X.prog X.w X.K X.mg X.base k f fd ps sp) (gd : X.A.guards = some []) (room : Room k X.A) (bn : Binds X.K fd ps ds) (dv : Vals dvs ds)
    (J : Inv X pn σ H s) (rv : Vals vs us) (want : sp (vs ++ dvs) H Q E) : wpAny (model X.prog X.w) X.A (call (.ref f) us) (EP X pn σ Q) X.xe s := by
  have rv2 := rv.append dv
  have ln : (us ++ ds).length = ps.length := rv2.length.symm.trans (F.len _ _ _ _ want)
  refine wpAny_call (codeAny_mono (F.run X.A X.stack s H ⟨us, []⟩ (us ++ ds) (vs ++ dvs) Q E gd room J.env0 (bn s us J.kIn ln) rv2 want) fun res s2 got => ?_)
  match res, got with
  | .error _, got => exact got.elim
  | .ok (.ret _), got => exact J.after got
  | .ok .next, got => exact got.elim
  | .ok .brk, got => exact got.elim
  | .ok .cont, got => exact got.elim
theorem pe_callG (F : FnG X.prog X.w X.K X.mg X.base k f fd ps sp) (gd : X.A.guards = some []) (room : Room k X.A) (gl : Gl X x) (at_ : X.mg x = some (.ref f)) (kp : PySem.W.keepIn X.K (.ref f) = true) (bn : Binds X.K fd ps ds) (dv : Vals dvs ds)
    (pa : PA X (e :: es) t) (hdb : (x == ("__debug__" : Str)) = false := by decide) (he : starEach (e :: es) X.env = (false, eval e X.env) :: starEach es X.env := by rfl) (hpl : (backTo pos (starEach es X.env)).any (·.1) = false := by rfl) :
    PE X (.Call (.Name x p) (e :: es) [] pos) (tCall sp dvs E t) := by
  constructor
  intro pn s σ H Q J want
  apply wpAny_Call_Name_kw
  refine ld_glob J gl at_ ?_ hdb
  refine PySem.W.callWith_K (h₀ := X.base) J.ok.mod.kin kp ?_ he hpl
  refine thn (pa.run pos pn s σ H _ J want) ?_
  rintro us s1 ⟨vs, H1, J1, rv, q⟩
  exact ⟨J1.kIn, run_g F gd room bn dv J1 rv q⟩
end

/-- a def's body, the guards empty -/
theorem _root_.L2.Fun.okG {P : Program} {w : World} {K : PySem.W.Frag} {mg : Str → Option Value} {base : Heap} {x qual : Str} {st : Stmt} {f : Addr} {fd : FuncData} {N ps : List Str} {k : Nat} {sp : Sp} (F : Fun K x qual st f fd) (S : FnScope N ps (defScope st))
    (ln : ∀ vs H Q E, sp vs H Q E → vs.length = ps.length)
    (body : ∀ (cdv : Value) (A : Around) (outer : List Env) (s : Shared) (H : Hp) (vs : List V) (Q : VK) (E : XK), (A.deeper (envOfC qual (defScope st) s.heap.objs.size f cdv)).guards = some [] → Room k (A.deeper (envOfC qual (defScope st) s.heap.objs.size f cdv)) → sp vs H Q E →
      ∃ t, PSs (cxOf CX0 P w K mg base N qual (defScope st) f cdv A outer s H E).nox (defBody st) t ∧ t { nx := fun _ H' => Q .non H', rt := Q } (start N vs) H) : FnG P w K mg base (k + 1) f fd ps sp := by
  obtain ⟨oc, od, kV, doc, pm, an, cdv, ct, osl, rfl, look, code⟩ := F.ex
  constructor
  · exact ln
  intro A outer s H args us vs Q E gd room e0 bn rv want
  have ln1 := ln _ _ _ _ want
  have kin : K.In s.heap := e0.mod.kin.keeps fun b o q => (e0.bs b o q).1
  have nolim : s.heap.NoLimit := e0.mod.nolimit.keeps fun b o q => (e0.bs b o q).1
  have kinds : ∀ y ∈ ps.zip us, (defScope st).names.lookup y.1 = some .local ∨ ((defScope st).names.lookup y.1 = some .cell ∧ ((cellsFrom (s.heap.objs.size + 1) (defScope st).names []).lookup y.1).isSome = true) := by
    rintro ⟨n, v⟩ mem
    rcases S.par n (List.of_mem_zip mem).1 with here | here
    · exact .inl here
    · exact .inr ⟨here, PySem.W.cellsFrom_some _ _ _ (.inl here)⟩
  refine codeAny_call_function room.depth (kin _ _ look) rfl S.co S.gen rfl (PySem.W.codeRec_of kin code) (bn _ _ _ _ ?_)
  refine wpAny_newFunctionEnv_cells S.kind kinds fun env he s1 into => ?_
  cases he
  refine ⟨nolim.keeps into.toInCall.keep, codeAny_func ?_⟩
  obtain ⟨t, ht, run⟩ := body cdv A outer s H vs Q E gd (room.deeper _) want
  have J : Inv (cxOf CX0 P w K mg base N qual (defScope st) f cdv A outer s H E) [] (start N vs) H s1 := inv_start S room.hd e0 ln1 rv into
  refine wpAny_mono (ht.nox.run [] s1 (start N vs) H _ J run) (fun fl s2 got => ?_) fun _ _ got => got
  match fl, got with
  | .ret u, ⟨v, σ2, H2, J2, rv2, q⟩ => exact ⟨v, H2, J2.os, J2.bare, J2.base, J2.hok, rv2, q⟩
  | .next, ⟨σ2, H2, J2, q⟩ => exact ⟨.non, H2, J2.os, J2.bare, J2.base, J2.hok, rfl, q⟩
  | .brk, ⟨_, _, _, q⟩ => exact q.elim
  | .cont, ⟨_, _, _, q⟩ => exact q.elim

/-! ### repr of data -/
def rRepr (K : PySem.W.Frag) : List V → Hp → VK → Prop := fun xs H Q => ∃ (x : V) (d : PyData), xs = [x] ∧ Dp K H x d ∧ d.showable = true ∧ d.hasDict = false ∧ d.depth ≤ 16 ∧ d.shown.length ≤ sizeLine ∧ Q (.str d.shown) H
theorem cr_repr {X : Cx} (gd : X.A.guards = some []) (hu : X.A.units + 64 < cLine) : CallR X (.builtin "repr") (fun xs H Q => ∃ (a : Addr) (d : PyData), xs = [.ref a] ∧ Dp X.K H (.ref a) d ∧ d.showable = true ∧ d.hasDict = false ∧ d.depth ≤ 16 ∧ d.shown.length ≤ sizeLine ∧ Q (.str d.shown) H) := by
  intro pn s σ H xs us Q J rv h
  obtain ⟨a, d, rfl, dp, sh, nd, dep, z, q⟩ := h
  obtain ⟨u, rfl, ru⟩ := vals1 rv
  cases ru
  obtain ⟨as, rd⟩ := Dp.reads J d _ _ dp rfl
  refine repr_of_reads' rd sh (fun e => ?_) gd (by omega) (fun _ _ e => e) (fun h2 u2 tk keep => ?_) z
  · rw [nd] at e
    cases e
  · exact ⟨.str d.shown, H, J.kept keep, ⟨_, rfl⟩, q⟩
end G0

namespace G0
open PySem PySem.Spec PyProof.Rows L2
/-- the law is called where no repr is under way -/
theorem call_top {P : Program} {w : World} {K : PySem.W.Frag} {mg mb : Str → Option Value} {k : Nat} {fa a : Addr} {fd : FuncData} {x : Str} {sp : Sp} {s1 : Shared} {vs : List Value} {ns : List Int}
    (kin : K.In s1.heap) (hns : s1.heap.Ns mainGlobals mg) (hb : s1.heap.Ns builtinsNs mb) (hbb : ∀ x : Str, x ≠ "__name__" → mb x = bootBuiltins x) (lim : s1.heap.NoLimit) (gens : s1.gens = #[])
    (ha : s1.heap.get? a = some { cls := .type "list", data := .seq vs.toArray }) (hi : IntsAre vs ns) (hl : ns.length ≤ sizeLine) (room : Room k callerA)
    (F : ∀ base : Heap, K.In base → base.Ns mainGlobals mg → FnG P w K mg base k fa fd [x] sp) (bind : ∀ (s : Shared) (u : Value), BindsTo s fd ⟨[u], []⟩ [(x, u)])
    (want : ∀ H : Hp, Only H → SqL K H a (ns.map V.int) → sp [.ref a] H (fun v _ => v = .bl true) fun _ _ _ => False) :
    codeAny (model P w) callerA (.call (.ref fa) ⟨[.ref a], []⟩) (fun r s2 => r = .ok (.ret (.bool true)) ∧ OldK s1.heap s2.heap ∧ s2.os = s1.os ∧ AllBare s2.gens) s1 := by
  have vv := vals_ints hi
  have lv := hi.length
  -- H tracks nothing, or the script alone
  have main : ∀ H : Hp, Only H → SqL K H a (ns.map V.int) → HOk P w H s1.heap → (∀ b, H b ≠ none → b = a ∧ K.lookup a = none) →
      codeAny (model P w) callerA (.call (.ref fa) ⟨[.ref a], []⟩) (fun r s2 => r = .ok (.ret (.bool true)) ∧ OldK s1.heap s2.heap ∧ s2.os = s1.os ∧ AllBare s2.gens) s1 := by
    intro H only sq hok just
    have free : ∀ {b : Addr} {ob : Obj} {es : Array DictEntry} {ep : Nat}, s1.heap.get? b = some ob → ob.data = .dict es ep → H b = none := by
      intro b ob es ep e1 e2
      refine Classical.byContradiction fun no => ?_
      obtain rfl := (just b no).1
      rw [ha] at e1
      cases e1
      cases (show Data.seq vs.toArray _ = Data.dict es ep from e2)
    have ns_of : ∀ {b : Addr} {m : Str → Option Value}, s1.heap.Ns b m → (hidT s1.heap H).Ns b m := by
      rintro b m ⟨ob, es, ep, e1, e2, rest⟩
      exact ⟨ob, es, ep, hidT_get e1 (free e1 e2), e2, rest⟩
    have kinH : K.In (hidT s1.heap H) := by
      intro b ob e1
      refine hidT_get (kin b ob e1) (Classical.byContradiction fun no => ?_)
      obtain ⟨rfl, z⟩ := just b no
      rw [z] at e1
      cases e1
    have limH : (hidT s1.heap H).NoLimit := by
      obtain ⟨mc, l1, l2⟩ := lim
      exact ⟨mc, ns_of l1, l2⟩
    have env : Env0 P w K mg (hidT s1.heap H) callerA [] s1 H := by
      refine ⟨rfl, ⟨kinH, ns_of hns, ⟨mb, ns_of hb, hbb⟩, limH⟩, fun b ob e1 => of_hidT e1, Nat.le_of_eq (hidT_size _ _), trivial, ?_, hok, .of_eq gens⟩
      intro b mem
      cases (show b ∈ ([] : List Addr) from mem)
    refine codeAny_mono ((F _ kinH (ns_of hns)).run callerA [] s1 H ⟨[.ref a], []⟩ [.ref a] [.ref a] _ _ rfl room env (bind s1 (.ref a)) (.cons rfl .nil) (want H only sq)) fun res s2 got => ?_
    match res, got with
    | .error _, got => exact got.elim
    | .ok .next, got => exact got.elim
    | .ok .brk, got => exact got.elim
    | .ok .cont, got => exact got.elim
    | .ok (.ret u), ⟨v, H2, eos, bare, un, hok2, rv, (q : v = .bl true)⟩ =>
      subst q
      obtain rfl : u = Value.bool true := rv
      refine ⟨rfl, OldK.of_keep fun b ob e1 => ?_, eos, bare⟩
      rcases only b with z | ⟨oz, ys, z⟩
      · refine un.keep b ob e1 z (fun mem => ?_) (fun mem => ?_)
        · cases (show b ∈ ([] : List Addr) from mem)
        · cases mem
      · obtain ⟨i1, _⟩ := hok b _ z
        obtain ⟨i2, _⟩ := hok2 b _ (un.frzs b oz _ z)
        exact i2.trans (i1.symm.trans e1)
  cases written : K.lookup a with
  | some ob =>
    have e1 := kin a ob written
    rw [ha] at e1
    cases e1
    refine main (fun _ => none) (fun _ => .inl rfl) (.inr ⟨_, vs.toArray, _, written, rfl, rfl, rfl, ?_, ?_⟩) (fun b u e2 => ?_) (fun b no => absurd rfl no)
    · rw [List.size_toArray, lv]
      exact hl
    · simpa using vv
    · cases (show (none : Option HO) = some u from e2)
  | none =>
    let T : Hp := fun b => if b = a then some (.frz { cls := .type "list", data := .seq vs.toArray } (.lst (ns.map V.int))) else none
    have here : T a = some (.frz { cls := .type "list", data := .seq vs.toArray } (.lst (ns.map V.int))) := if_pos rfl
    have away : ∀ b, b ≠ a → T b = none := fun b ne => if_neg ne
    refine main T (fun b => ?_) (.inl (.inr ⟨_, here⟩)) (fun b u e2 => ?_) (fun b no => ?_)
    · by_cases eb : b = a
      · subst eb
        exact .inr ⟨_, _, here⟩
      · exact .inl (away b eb)
    · by_cases eb : b = a
      · subst eb
        rw [here] at e2
        cases e2
        refine ⟨ha, ?_, vs, _, vv, ha⟩
        rw [List.length_map]
        exact hl
      · rw [away b eb] at e2
        cases e2
    · refine ⟨Classical.byContradiction fun ne => no (away b ne), written⟩
/-- what k_head leaves, by such a promise -/
theorem walk_G {l : PySem.W.OpenLaw} {n k : Nat} {q : Program} {loose : List Str} {XP : (Str → Option Value) → Heap → Prop} {YP : World → Heap → Prop} {d : DefRec} {K : Params → PySem.W.Frag} {sp : PySem.W.Frag → Sp} {x : Str}
    (most : l.most = some n) (fits : n ≤ sizeLine) (nodf : d.params.defaults = []) (room : Room k callerA) (hY : ∀ (w : World) (h : Heap), YP w h → (K w.params).In h)
    (F : ∀ (w : World) (mg : Str → Option Value) (fa : Addr) (h : Heap), (K w.params).In h → h.Ns mainGlobals mg → mg d.name = some (.ref fa) →
      ∃ fd : FuncData, (∀ (s : Shared) (u : Value), BindsTo s fd ⟨[u], []⟩ [(x, u)]) ∧ ∀ base : Heap, (K w.params).In base → base.Ns mainGlobals mg → FnG l.prog w (K w.params) mg base k fa fd [x] (sp (K w.params)))
    (want : ∀ (w : World) (H : Hp) (a : Addr) (ns : List Int), ns.length ≤ n → Only H → SqL (K w.params) H a (ns.map V.int) → sp (K w.params) [.ref a] H (fun v _ => v = .bl true) fun _ _ _ => False) :
    PySem.W.WalkO q loose XP YP l.row.toRowW d [] (fun f vs => PySem.call f vs) := by
  refine Att.attach_call most nodf ?_
  intro w s0 s1 mg mb fa o pm cd doc a vs ns G Y ho hd hcd hmg hobj iv len gens
  obtain ⟨fd, bn, hF⟩ := F w mg fa _ (hY w _ Y) G.T.g hmg
  exact call_top (hY w _ Y) G.T.g G.T.b G.T.builtins G.T.nolimit gens hobj iv (Nat.le_trans len fits) room hF bn fun H only sq => want w H a ns len only sq
end G0

namespace G0
open PySem PySem.Spec PyProof.Rows L2
/-! ### calls whose last arguments are all given by name, in the parameters' sequence -/
structure KB (fd : FuncData) (ps ks : List Str) (n : Nat) : Prop where
  to : ∀ us ws : List Value, us.length = n → ws.length = ks.length → bindArgs fd ⟨us, ks.zip ws⟩ = pure (ps.zip (us ++ ws))
theorem kb_of {K : PySem.W.Frag} {x qual : Str} {st : Stmt} {f : Addr} {fd : FuncData} {ps ks : List Str} {n : Nat} (F : Fun K x qual st f fd)
    (h : ∀ (kV doc pm : Value) (an : Option Addr) (cdv ct : Value) (us ws : List Value), us.length = n → ws.length = ks.length → bindArgs (PySem.W.fnOf x qual (defArgs st) (defBody st) (defScope st) .none kV doc pm an cdv ct) ⟨us, ks.zip ws⟩ = pure (ps.zip (us ++ ws))) : KB fd ps ks n := by
  obtain ⟨oc, od, kV, doc, pm, an, cdv, ct, osl, rfl, _, _⟩ := F.ex
  exact ⟨h kV doc pm an cdv ct⟩
section
variable {X : Cx} {k n : Nat} {f C : Addr} {fd : FuncData} {ps ks : List Str} {sp : Sp} {E : XK} {x m : Str} {p pos apos : Pos} {e o : Expr} {kws : List Keyword} {ta : TE} {tk : TA}
theorem run_kb {pn : List (Addr × Obj)} {σ : L2.St} {H : Hp} {s : Shared} {Q : VK} {us ws : List Value} {vs zs : List V} (F : FnOk X.prog X.w X.K X.mg X.base CX0 k f fd ps sp) (room : Room k X.A) (bn : KB fd ps ks n)
    (J : Inv X pn σ H s) (rv : Vals vs us) (rz : Vals zs ws) (l1 : vs.length = n) (l2 : zs.length = ks.length) (want : sp (vs ++ zs) H Q E) : wpAny (model X.prog X.w) X.A (call (.ref f) us (ks.zip ws)) (EP X pn σ Q) X.xe s := by
  refine wpAny_call (codeAny_mono (F.run X.A X.stack s H ⟨us, ks.zip ws⟩ (us ++ ws) (vs ++ zs) Q E room J.env0 (.of_eq (bn.to us ws (rv.length.symm.trans l1) (rz.length.symm.trans l2))) (rv.append rz) want) fun res s2 got => ?_)
  match res, got with
  | .error _, got => exact got.elim
  | .ok (.ret _), got => exact J.after got
  | .ok .next, got => exact got.elim
  | .ok .brk, got => exact got.elim
  | .ok .cont, got => exact got.elim
/-- f(k = v, ..) -/
def tCallN (sp : Sp) (n : Nat) (E : XK) (tk : TA) : TE := fun σ H Q => tk σ H fun zs H1 => zs.length = n ∧ sp zs H1 Q E
theorem pe_callN (F : FnOk X.prog X.w X.K X.mg X.base CX0 k f fd ps sp) (room : Room k X.A) (gl : Gl X x) (at_ : X.mg x = some (.ref f)) (kp : PySem.W.keepIn X.K (.ref f) = true) (bn : KB fd ps ks 0) (pk : PK X kws tk)
    (hall : (backToKw pos (keywordEach kws X.env)).all (·.1.isSome) = true := by rfl) (hks : (backToKw pos (keywordEach kws X.env)).filterMap (·.1) = ks := by rfl) (hdb : (x == ("__debug__" : Str)) = false := by decide)
    (hpl : ((backTo pos (starEach [] X.env)).any (·.1) || (backToKw pos (keywordEach kws X.env)).any (·.1.isNone)) = false := by rfl) : PE X (.Call (.Name x p) [] kws pos) (tCallN sp ks.length E tk) := by
  constructor
  intro pn s σ H Q J want
  apply wpAny_Call_Name_kw
  refine ld_glob J gl at_ ?_ hdb
  refine PySem.W.callWith_KW0 (h₀ := X.base) J.ok.mod.kin kp hall ?_ hpl
  refine thn (pk.run pos pn s σ H _ J want) ?_
  rintro ws s2 ⟨zs, H2, J2, rz, l2, q2⟩
  rw [hks]
  exact ⟨J2.kIn, run_kb (us := []) (vs := []) F room bn J2 .nil rz rfl l2 q2⟩
/-- o.m(k = v, ..) -/
def tMethN (C : Addr) (m : Str) (sp : Sp) (n : Nat) (E : XK) (ta : TE) (tk : TA) : TE := fun σ H Q => ta σ H fun x H1 => ∃ a dx fs, x = .ref a ∧ H1 a = some (.ins C dx fs) ∧ fs.lookup m = none ∧ tk σ H1 fun zs H2 => zs.length = n ∧ sp (x :: zs) H2 Q E
theorem pe_methN {pl : Sem Bool} (po : PE X o ta) (c : Cls X.K C) (hm : Meth X.K C m f) (F : FnOk X.prog X.w X.K X.mg X.base CX0 k f fd ps sp) (room : Room k X.A) (bn : KB fd ps ks 1) (pk : PK X kws tk)
    (hall : (backToKw pos (keywordEach kws X.env)).all (·.1.isSome) = true := by rfl) (hks : (backToKw pos (keywordEach kws X.env)).filterMap (·.1) = ks := by rfl)
    (hpl : ((backTo pos (starEach [] X.env)).any (·.1) || (backToKw pos (keywordEach kws X.env)).any (·.1.isNone)) = false := by rfl)
    (ht : eval (.Call (.Attribute o m apos) [] kws pos) X.env = (do
      let ov ← eval o X.env
      standAt apos.atName
      let (g, first) ← holding [ov] (getMethod ov m pl)
      callWith pos g first (backTo pos (starEach [] X.env)) (backToKw pos (keywordEach kws X.env))) := by rfl) :
    PE X (.Call (.Attribute o m apos) [] kws pos) (tMethN C m sp ks.length E ta tk) := by
  constructor
  intro pn s σ H Q J want
  refine PySem.W.methodCall_KW (pl := pl) (thn (po.run pn s σ H _ J want) ?_) ht
  rintro u s1 ⟨x, H1, J1, rx, a, dx, fs, rfl, ea, l, q⟩
  obtain rfl : u = Value.ref a := rx
  refine getmeth_ok J1 ea c hm l ?_
  refine PySem.W.callWith_KW0 (first := [.ref a]) (h₀ := X.base) J1.ok.mod.kin hm.kp hall ?_ hpl
  refine thn (pk.run pos pn s1 σ H1 _ J1 q) ?_
  rintro ws s2 ⟨zs, H2, J2, rz, l2, q2⟩
  rw [hks]
  refine ⟨J2.kIn, ?_⟩
  exact run_kb (us := [.ref a]) (vs := [.ref a]) F room bn J2 (.cons rfl .nil) rz rfl l2 q2
end

/-! ### data in the heap -/
theorem same_new {H : Hp} {q : Addr} {o : HO} (h : H q = none) : Same H (upd H q o) := fun b u e => by
  rw [upd_ne (ne_of_none e h)]
  exact e
theorem same_t {K : PySem.W.Frag} {H H' : Hp} {a : Addr} {xs : List V} (e : Same H H') (h : SqT K H a xs) : SqT K H' a xs := by
  rcases h with (h | ⟨o, h⟩) | h
  · exact .inl (.inl (e _ _ h))
  · exact .inl (.inr ⟨o, e _ _ h⟩)
  · exact .inr h
/-- a list or a tuple -/
def Sq (K : PySem.W.Frag) (H : Hp) (a : Addr) (xs : List V) : Prop := SqL K H a xs ∨ SqT K H a xs
theorem Sq.same {K : PySem.W.Frag} {H H' : Hp} {a : Addr} {xs : List V} (e : Same H H') (h : Sq K H a xs) : Sq K H' a xs := h.imp e.seq (same_t e)
theorem SqT.mk {K : PySem.W.Frag} {H : Hp} {a : Addr} {xs : List V} (h : H a = some (.tup xs)) : SqT K H a xs := .inl (.inl h)
theorem SqL.mk {K : PySem.W.Frag} {H : Hp} {a : Addr} {xs : List V} (h : H a = some (.lst xs)) : SqL K H a xs := .inl (.inl h)
mutual
theorem Dp.same {K : PySem.W.Frag} {H H' : Hp} (e : Same H H') : ∀ {v : V} {d : PyData}, Dp K H v d → Dp K H' v d
  | _, _, .non => .non
  | _, _, .bl b => .bl b
  | _, _, .int i => .int i
  | _, _, .str x => .str x
  | _, _, .lst h a => .lst (e.seq h) (DpAll.same e a)
  | _, _, .tup h a => .tup (same_t e h) (DpAll.same e a)
theorem DpAll.same {K : PySem.W.Frag} {H H' : Hp} (e : Same H H') : ∀ {vs : List V} {ds : List PyData}, DpAll K H vs ds → DpAll K H' vs ds
  | _, _, .nil => .nil
  | _, _, .cons h a => .cons (Dp.same e h) (DpAll.same e a)
end
theorem dp_ints {K : PySem.W.Frag} {H : Hp} : ∀ ns : List Int, DpAll K H (ns.map V.int) (ns.map PyData.int)
  | [] => .nil
  | n :: ns => .cons (.int n) (dp_ints ns)
/-- what a list, a tuple of ints is, as data -/
abbrev dTup (ns : List Int) : PyData := .tuple (ns.map .int)
abbrev dLst (ns : List Int) : PyData := .list (ns.map .int)
theorem dp_tup {K : PySem.W.Frag} {H : Hp} {a : Addr} {ns : List Int} (h : SqT K H a (ns.map V.int)) : Dp K H (.ref a) (dTup ns) := .tup h (dp_ints ns)
theorem dp_lst {K : PySem.W.Frag} {H : Hp} {a : Addr} {ns : List Int} (h : SqL K H a (ns.map V.int)) : Dp K H (.ref a) (dLst ns) := .lst h (dp_ints ns)
theorem eqv_ints : ∀ ns ms : List Int, PyData.eqvAll (ns.map PyData.int) (ms.map PyData.int) = decide (ns = ms)
  | [], [] => by simp [PyData.eqvAll]
  | [], _ :: _ => by simp [PyData.eqvAll]
  | _ :: _, [] => by simp [PyData.eqvAll]
  | n :: ns, m :: ms => by
    have ih := eqv_ints ns ms
    simp only [List.map_cons, PyData.eqvAll, PyData.eqv, ih, List.cons.injEq, Bool.decide_and]
    congr 1
theorem eqv_tup (ns ms : List Int) : PyData.eqv (dTup ns) (dTup ms) = decide (ns = ms) := by
  simp only [PyData.eqv, eqv_ints]
end G0

namespace G0
open PySem PySem.Spec PyProof.Rows L2
/-! ### data whose text is short enough -/
mutual
def szD : PyData → Nat
  | .none => 5
  | .bool _ => 5
  | .int _ => 1930
  | .str x => (reprText x).length
  | .list xs => szAll xs + 3
  | .tuple xs => szAll xs + 3
  | .dict _ => 0
def szAll : List PyData → Nat
  | [] => 0
  | x :: xs => szD x + 2 + szAll xs
end
theorem list_text (ts : List Str) : (listText ts).length ≤ piled ts + 2 := by
  unfold listText
  rw [strLen_append]
  have e1 : ((("[" : String) : Str)).length = 1 := rfl
  have e2 : ((("]" : String) : Str)).length = 1 := rfl
  cases ts with
  | nil =>
    show (("[" : String) : Str).length + _ ≤ _
    omega
  | cons t r =>
    show (textFrom 1 ((("[" : String) : Str) ++ ((if 0 > 0 then ", " else "" : String) : Str) ++ t) r).length + _ ≤ _
    have e3 : (((if 0 > 0 then ", " else "" : String) : Str)).length = 0 := rfl
    rw [textFrom_length_pos _ _ _ Nat.one_pos, strLen_append, strLen_append, piled_cons]
    omega
mutual
theorem shown_le : ∀ d : PyData, d.showable = true → d.hasDict = false → d.shown.length ≤ szD d
  | .none, _, _ => by
    simp only [PyData.shown, szD]
    decide
  | .bool b, _, _ => by
    cases b <;> simp only [PyData.shown, szD] <;> decide
  | .int i, h, _ => by
    simp only [PyData.shown, szD]
    simp only [PyData.showable, decide_eq_true_eq] at h
    have e := int_text_length_le (k := 1920) (by decide) h
    have e2 : ((toString i : String) : Str).length = (toString i).length := PySem.ofString_length _
    omega
  | .str x, _, _ => by
    simp only [PyData.shown, szD]
    exact Nat.le_refl _
  | .list xs, h, n => by
    simp only [PyData.showable] at h
    simp only [PyData.hasDict] at n
    simp only [PyData.shown, szD]
    have e1 := list_text (PyData.shownAll xs)
    have e2 := shownAll_le xs h n
    omega
  | .tuple xs, h, n => by
    simp only [PyData.showable] at h
    simp only [PyData.hasDict] at n
    simp only [PyData.shown, szD]
    have e1 := fmt_text (PyData.shownAll xs)
    have e2 := shownAll_le xs h n
    omega
  | .dict _, _, n => by
    simp only [PyData.hasDict] at n
    cases n
theorem shownAll_le : ∀ xs : List PyData, PyData.showableAll xs = true → PyData.hasDictAll xs = false → piled (PyData.shownAll xs) ≤ szAll xs
  | [], _, _ => by
    simp only [PyData.shownAll, szAll, piled_nil]
    exact Nat.le_refl _
  | x :: xs, h, n => by
    simp only [PyData.showableAll, Bool.and_eq_true] at h
    simp only [PyData.hasDictAll, Bool.or_eq_false_iff] at n
    have e1 := shown_le x h.1 n.1
    have e2 := shownAll_le xs h.2 n.2
    simp only [PyData.shownAll, szAll, piled_cons]
    omega
end
/-- short data, no dict in it: its repr is known -/
structure Fine (d : PyData) : Prop where
  sh : d.showable = true
  nd : d.hasDict = false
  dep : d.depth ≤ 16
  sz : szD d ≤ 10000000
theorem Fine.fit {d : PyData} (h : Fine d) : d.shown.length ≤ sizeLine := by
  have e := shown_le d h.sh h.nd
  have := h.sz
  rw [sizeLine_eq]
  omega
/-- a list of fine ones, no more than 4000 of them, deep and long as told -/
structure FineAll (ds : List PyData) (dep sz : Nat) : Prop where
  sh : PyData.showableAll ds = true
  nd : PyData.hasDictAll ds = false
  dep : PyData.depthAll ds ≤ dep
  sz : szAll ds ≤ sz
theorem FineAll.nil {dep sz : Nat} : FineAll [] dep sz := ⟨by simp only [PyData.showableAll], by simp only [PyData.hasDictAll], by simp only [PyData.depthAll]; exact Nat.zero_le _, by simp only [szAll]; exact Nat.zero_le _⟩
theorem FineAll.cons {d : PyData} {ds : List PyData} {dep s1 s2 : Nat} (h1 : d.showable = true) (h2 : d.hasDict = false) (h3 : d.depth ≤ dep) (h4 : szD d ≤ s1) (h : FineAll ds dep s2) : FineAll (d :: ds) dep (s1 + 2 + s2) := by
  refine ⟨?_, ?_, ?_, ?_⟩
  · simp only [PyData.showableAll, h1, h.sh, Bool.and_self]
  · simp only [PyData.hasDictAll, h2, h.nd, Bool.or_self]
  · simp only [PyData.depthAll]
    exact Nat.max_le.mpr ⟨h3, h.dep⟩
  · simp only [szAll]
    have := h.sz
    omega
theorem small_log {i : Int} (h : i.natAbs < 2 ^ 1919) : i.natAbs.log2 < 1920 := by
  by_cases e : i.natAbs = 0
  · rw [e]
    decide
  · exact (Nat.log2_lt e).mpr (Nat.lt_trans h (by decide +kernel))
/-- ints of up to 1900 bits -/
def Sm (ns : List Int) : Prop := ∀ n ∈ ns, n.natAbs < 2 ^ 1919
theorem fine_ints : ∀ {ns : List Int}, Sm ns → FineAll (ns.map PyData.int) 0 (1932 * ns.length)
  | [], _ => .nil
  | n :: ns, h => by
    have ih := fine_ints (ns := ns) fun m hm => h m (List.mem_cons_of_mem _ hm)
    have e := FineAll.cons (d := .int n) (dep := 0) (s1 := 1930) (by simp only [PyData.showable, decide_eq_true_eq]; exact small_log (h n List.mem_cons_self)) (by simp only [PyData.hasDict]) (by simp only [PyData.depth]; exact Nat.le_refl _) (by simp only [szD]; exact Nat.le_refl _) ih
    refine ⟨e.sh, e.nd, e.dep, Nat.le_trans e.sz ?_⟩
    rw [List.length_cons]
    omega
theorem Fine.tup {ds : List PyData} {dep sz : Nat} (h : FineAll ds dep sz) (h1 : dep ≤ 15) (h2 : sz + 3 ≤ 10000000) : Fine (.tuple ds) := by
  refine ⟨by simp only [PyData.showable]; exact h.sh, by simp only [PyData.hasDict]; exact h.nd, ?_, ?_⟩
  · have := h.dep
    simp only [PyData.depth]
    omega
  · have := h.sz
    simp only [szD]
    omega
theorem Fine.lst {ds : List PyData} {dep sz : Nat} (h : FineAll ds dep sz) (h1 : dep ≤ 15) (h2 : sz + 3 ≤ 10000000) : Fine (.list ds) := by
  refine ⟨by simp only [PyData.showable]; exact h.sh, by simp only [PyData.hasDict]; exact h.nd, ?_, ?_⟩
  · have := h.dep
    simp only [PyData.depth]
    omega
  · have := h.sz
    simp only [szD]
    omega
theorem fine_tup {ns : List Int} (h : Sm ns) (l : ns.length ≤ 5000) : Fine (dTup ns) := .tup (fine_ints h) (by decide) (by omega)
theorem fine_lst {ns : List Int} (h : Sm ns) (l : ns.length ≤ 5000) : Fine (dLst ns) := .lst (fine_ints h) (by decide) (by omega)
/-- repr of fine data -/
def rReprF (K : PySem.W.Frag) : List V → Hp → VK → Prop := fun xs H Q => ∃ (a : Addr) (d : PyData), xs = [.ref a] ∧ Dp K H (.ref a) d ∧ Fine d ∧ Q (.str d.shown) H
theorem call_repr {X : Cx} (gd : X.A.guards = some []) (hu : X.A.units + 64 < cLine) : CallR X (.builtin "repr") (rReprF X.K) := by
  intro pn s σ H xs us Q J rv h
  obtain ⟨a, d, e, dp, f, q⟩ := h
  exact cr_repr gd hu pn s σ H xs us Q J rv ⟨a, d, e, dp, f.sh, f.nd, f.dep, f.fit, q⟩
end G0

namespace G0
open PySem PySem.Spec PyProof.Rows L2
/-! ### comprehensions that only add: an item x gives what F says, or nothing -/
def fm (F : V → Option V) (xs : List V) : List V := xs.filterMap F
theorem fm_succ {F : V → Option V} {xs : List V} {i : Nat} {x : V} (h : xs[i]? = some x) : fm F (xs.take (i + 1)) = fm F (xs.take i) ++ (match F x with | some y => [y] | none => []) := by
  unfold fm
  rw [List.take_add_one, h, List.filterMap_append]
  congr 1
  simp only [Option.toList]
  cases e : F x <;> simp [e]
theorem fm_len (F : V → Option V) (xs : List V) (i : Nat) : (fm F (xs.take i)).length ≤ xs.length :=
  Nat.le_trans (List.length_filterMap_le ..) (by rw [List.length_take]; exact Nat.min_le_right _ _)
section
variable {K : PySem.W.Frag} {a : Addr} {xs : List V} {g : TG} {tt : TT} {te : TE} {vs : List Nat} {σ : L2.St} {H1 : Hp} {D : Addr} {Qd : Hp → Prop}
/-- one turn, whatever follows -/
def Turn1 (g : TG) (tt : TT) (te : TE) (vs : List Nat) (σ : L2.St) (F : V → Option V) (x : V) (H : Hp) : Prop :=
  ∀ (G : V → Hp → Prop) (N : Hp → Prop), (F x = none → ∀ H', Same H H' → N H') → (∀ y, F x = some y → ∀ H', Same H H' → G y H') → g x (wipe σ vs) H fun σ2 H2 => wipe σ2 vs = wipe σ vs ∧ tt σ2 H2 fun b H3 => if b = true then te σ2 H3 G else N H3
theorem turn_fm {n : Nat} (F : V → Option V) (hn : xs.length < sizeLine) {i : Nat} {x : V} {H : Hp} {N1 : Hp → Prop} (hx : xs[i]? = some x) (hsame : Same H1 H) (hD1 : H1 D = none) (hD : H D = some (.lst (fm F (xs.take i)))) (t : Turn1 g tt te vs σ F x H)
    (nx : ∀ H', Same H1 H' → H' D = some (.lst (fm F (xs.take (i + 1)))) → N1 H') :
    g x (wipe σ vs) H fun σ2 H2 => wipe σ2 vs = wipe σ vs ∧ tt σ2 H2 fun b H3 => if b = true then te σ2 H3 fun y H4 => ∃ acc, H4 D = some (.lst acc) ∧ acc.length < sizeLine ∧ N1 (upd H4 D (.lst (acc ++ [y]))) else N1 H3 := by
  refine t _ _ (fun e H' s => ?_) (fun y e H' s => ?_)
  · refine nx H' (hsame.trans s) ?_
    rw [fm_succ hx, e, List.append_nil]
    exact s _ _ hD
  · refine ⟨_, s _ _ hD, Nat.lt_of_le_of_lt (fm_len F xs i) hn, nx _ (fun b o eb => ?_) ?_⟩
    · rw [upd_ne (ne_of_none eb hD1)]
      exact s _ _ (hsame _ _ eb)
    · rw [upd_same, fm_succ hx, e]
theorem lcL (F : V → Option V) (hl : SqL K H1 a xs) (hn : xs.length < sizeLine) (hD : H1 D = none) (t : ∀ x, x ∈ xs → ∀ H, Same H1 H → Turn1 g tt te vs σ F x H) (hd : ∀ H, Same H1 H → H D = some (.lst (fm F xs)) → Qd H) :
    ∃ W : Nat → Nat → Hp → Prop, (∃ m, W 0 m (upd H1 D (.lst []))) ∧ ∀ i m H, W i m H →
      ((Itl K a).stop i H ∧ Qd H) ∨ ((Itl K a).go i H ∧ ∃ Nx : Hp → Prop, (∀ H', Nx H' → ∃ m', m' < m ∧ W (i + 1) m' H') ∧ ∀ x H', (Itl K a).yld i H x H' → g x (wipe σ vs) H' fun σ2 H2 => wipe σ2 vs = wipe σ vs ∧ tt σ2 H2 fun b H3 =>
        if b = true then te σ2 H3 fun y H4 => ∃ acc, H4 D = some (.lst acc) ∧ acc.length < sizeLine ∧ Nx (upd H4 D (.lst (acc ++ [y]))) else Nx H3) :=
  lc_list (xs := xs) (fun i H => Same H1 H ∧ H D = some (.lst (fm F (xs.take i)))) ⟨same_new hD, upd_same⟩ (fun _ _ _ h => h.1.seq hl)
    (fun i x H hx h => turn_fm (n := 0) F hn hx h.1 hD h.2 (t x (List.mem_of_getElem? hx) H h.1) fun H' s d => ⟨s, d⟩) (fun H h => hd H h.1 (by rw [h.2, List.take_length]))
theorem lcT (F : V → Option V) (hl : SqT K H1 a xs) (hn : xs.length < sizeLine) (hD : H1 D = none) (t : ∀ x, x ∈ xs → ∀ H, Same H1 H → Turn1 g tt te vs σ F x H) (hd : ∀ H, Same H1 H → H D = some (.lst (fm F xs)) → Qd H) :
    ∃ W : Nat → Nat → Hp → Prop, (∃ m, W 0 m (upd H1 D (.lst []))) ∧ ∀ i m H, W i m H →
      ((Itt K a).stop i H ∧ Qd H) ∨ ((Itt K a).go i H ∧ ∃ Nx : Hp → Prop, (∀ H', Nx H' → ∃ m', m' < m ∧ W (i + 1) m' H') ∧ ∀ x H', (Itt K a).yld i H x H' → g x (wipe σ vs) H' fun σ2 H2 => wipe σ2 vs = wipe σ vs ∧ tt σ2 H2 fun b H3 =>
        if b = true then te σ2 H3 fun y H4 => ∃ acc, H4 D = some (.lst acc) ∧ acc.length < sizeLine ∧ Nx (upd H4 D (.lst (acc ++ [y]))) else Nx H3) :=
  lc_tup (xs := xs) (fun i H => Same H1 H ∧ H D = some (.lst (fm F (xs.take i)))) ⟨same_new hD, upd_same⟩ (fun _ _ _ h => same_t h.1 hl)
    (fun i x H hx h => turn_fm (n := 0) F hn hx h.1 hD h.2 (t x (List.mem_of_getElem? hx) H h.1) fun H' s d => ⟨s, d⟩) (fun H h => hd H h.1 (by rw [h.2, List.take_length]))
end
theorem fm_map (f : V → V) : ∀ xs : List V, fm (fun x => some (f x)) xs = xs.map f
  | [] => rfl
  | x :: xs => by
    show f x :: fm _ xs = f x :: xs.map f
    rw [fm_map f xs]
/-- types of what stands in lists and tuples -/
theorem ty_l {K : PySem.W.Frag} {H : Hp} {a : Addr} {xs : List V} (h : SqL K H a xs) : TyX K H (.ref a) (.type "list") := by
  rcases h with (h | ⟨o, h⟩) | h
  · exact .base (.lst h)
  · exact .base (.frz h)
  · obtain ⟨o, its, n, hk, hc, _⟩ := h
    exact .kList hk hc
theorem ty_t {K : PySem.W.Frag} {H : Hp} {a : Addr} {xs : List V} (h : SqT K H a xs) : TyX K H (.ref a) (.type "tuple") := by
  rcases h with (h | ⟨o, h⟩) | h
  · exact .base (.tup h)
  · exact .fTuple h
  · obtain ⟨o, its, n, hk, hc, _⟩ := h
    exact .kTuple hk hc
end G0

namespace G0
open PySem PySem.Spec PyProof.Rows L2
/-! ### any(xs), xs ints in a list or a tuple -/
theorem truths {prog : Program} {w : World} {A : Around} : ∀ {ns : List Int} {its : List Value}, Vals (ns.map V.int) its → TruthOf prog w A (fun i v => its.toArray[i]? = some v) (fun i => ns.getD i 0 != 0) := by
  intro ns its rv i v s Q E hv hq
  have hv' : its[i]? = some v := by simpa using hv
  have look : ∀ {ms : List Int} {us : List Value} {j : Nat}, Vals (ms.map V.int) us → us[j]? = some v → ∃ n t, ms[j]? = some n ∧ v = .int n t := by
    intro ms
    induction ms with
    | nil =>
      intro us j r h
      cases r
      cases h
    | cons m ms ih =>
      intro us j r h
      cases r with
      | cons r1 r2 =>
        cases j with
        | zero =>
          obtain ⟨t, rfl⟩ := r1
          cases h
          exact ⟨m, t, rfl, rfl⟩
        | succ j => exact ih r2 h
  obtain ⟨n, t, hn, rfl⟩ := look rv hv'
  have hg : ns.getD i 0 = n := by
    rw [List.getD_eq_getElem?_getD, hn]
    rfl
  have hq2 : Q (ns.getD i 0 != 0) s := hq
  rw [hg] at hq2
  exact PyProof.Rows.truthy_int hq2
theorem any_ints : ∀ ns : List Int, ((List.range ns.length).any fun i => ns.getD i 0 != 0) = ns.any fun n => n != 0
  | [] => rfl
  | n :: ns => by
    rw [List.length_cons, List.range_succ_eq_map, List.any_cons, List.any_map, List.any_cons, ← any_ints ns]
    all_goals rfl
section
variable {X : Cx}
def rAnyI (K : PySem.W.Frag) : List V → Hp → VK → Prop := fun vs H Q => ∃ (a : Addr) (ns : List Int), vs = [V.ref a] ∧ Sq K H a (ns.map V.int) ∧ Q (.bl (ns.any fun n => n != 0)) H
theorem cr_anyI (calm : X.calm = true) : CallR X (.builtin "any") (rAnyI X.K) := by
  intro pn s σ H vs us Q J r h
  obtain ⟨a, ns, rfl, hs, q⟩ := h
  rw [Vals.ref1 r]
  rcases hs with hs | hs
  · obtain ⟨its, rv, hl, _⟩ := J.list hs
    have lv := rv.length
    refine call_any_walk (iter_any hl.isList fun s2 e2 st hne => ?_)
    subst e2
    refine ⟨_, _, _, _, _, _, _, rfl, Walks.list (A := X.A.in1) (J.ok.hd calm) _ a hne its.toArray, st, truths rv, fun h2 tk hk => ?_⟩
    refine ⟨.bl _, H, J.kept fun b o eo => hk b o (fun mem => ?_) (Heap.get?_push_of_some _ eo), ?_, q⟩
    · rcases List.mem_cons.mp mem with e1 | mem
      · exact absurd (e1 ▸ Heap.lt_size eo) (Nat.lt_irrefl _)
      · cases mem
    · rw [List.size_toArray, ← lv, List.length_map, any_ints]
      rfl
  · obtain ⟨its, rv, hl, _⟩ := J.tuple hs
    have lv := rv.length
    obtain ⟨o1, ho1, hc1, n1, hd1⟩ := hl
    have hT : s.heap.IsTuple a its.toArray := ⟨o1, ho1, hc1, n1, hd1⟩
    have hlt : a < s.heap.objs.size := Heap.lt_size ho1
    refine call_any_walk (wpAny_pyIter_tuple hT ?_)
    refine ⟨_, _, _, _, _, _, _, rfl, Walks.tuple (A := X.A.in1) (J.ok.hd calm) _ a (Nat.ne_of_lt hlt) its.toArray, ⟨⟨_, Heap.get?_push_size _ rfl, rfl, rfl⟩, hT.push _⟩, truths rv, fun h2 tk hk => ?_⟩
    refine ⟨.bl _, H, J.kept fun b o eo => hk b o (fun mem => ?_) (Heap.get?_push_of_some _ eo), ?_, q⟩
    · rcases List.mem_cons.mp mem with e1 | mem
      · exact absurd (e1 ▸ Heap.lt_size eo) (Nat.lt_irrefl _)
      · cases mem
    · rw [List.size_toArray, ← lv, List.length_map, any_ints]
      rfl
end
end G0

namespace G0
open PySem PySem.Spec PyProof.Rows L2
/-! ### walks over a list (true) or a tuple (false): enumerate, zip of two, of three -/
def SqK (b : Bool) (K : PySem.W.Frag) (H : Hp) (a : Addr) (xs : List V) : Prop := match b with | true => SqL K H a xs | false => SqT K H a xs
theorem Sq.kind {K : PySem.W.Frag} {H : Hp} {a : Addr} {xs : List V} (h : Sq K H a xs) : ∃ b, SqK b K H a xs := h.elim (fun h => ⟨true, h⟩) (fun h => ⟨false, h⟩)
theorem SqK.sq {b : Bool} {K : PySem.W.Frag} {H : Hp} {a : Addr} {xs : List V} (h : SqK b K H a xs) : Sq K H a xs := by
  cases b with
  | true => exact .inl h
  | false => exact .inr h
theorem SqK.same {b : Bool} {K : PySem.W.Frag} {H H' : Hp} {a : Addr} {xs : List V} (e : Same H H') (h : SqK b K H a xs) : SqK b K H' a xs := by
  cases b with
  | true => exact e.seq h
  | false => exact same_t e h
def IterK (b : Bool) (h : Heap) (it a : Addr) (i : Nat) : Prop := match b with | true => h.IsListIter it a i | false => h.IsTupleIter it a i
def IsK (b : Bool) (h : Heap) (a : Addr) (items : Array Value) : Prop := match b with | true => h.IsList a items | false => h.IsTuple a items
def iterO (b : Bool) (a : Addr) : Obj := match b with
  | true => { cls := .type "list_iterator", data := .fields #[.ref a, .int 0 0] }
  | false => { cls := .type "tuple_iterator", data := .fields #[.ref a, .int 0 0] }
theorem draw_K {prog : Program} {w : World} {A : Around} (calm : A.handled = none) (b : Bool) (it a : Addr) (ne : a ≠ it) (items : Array Value) :
    Draws prog w A it [it, a] items.size (fun i v => items[i]? = some v) (fun i h => IterK b h it a i ∧ IsK b h a items) := by
  cases b with
  | true => exact Draws.list calm it a ne items
  | false => exact Draws.tuple calm it a ne items
theorem begin_K (b : Bool) (a : Addr) (items : Array Value) : Begins (.ref a) (iterO b a) fun h => IsK b h a items := by
  cases b with
  | true => exact begins_list a items
  | false => exact begins_tuple a items
theorem iter_K {b : Bool} {h : Heap} {it a : Addr} (e : h.get? it = some (iterO b a)) : IterK b h it a 0 := by
  cases b with
  | true => exact ⟨_, e, rfl, rfl⟩
  | false => exact ⟨_, e, rfl, rfl⟩
theorem IterK.obj {b : Bool} {h : Heap} {it a : Addr} {i : Nat} (e : IterK b h it a i) : ∃ o, h.get? it = some o ∧ ∀ v, o.data ≠ .cell v := by
  cases b with
  | true =>
    obtain ⟨o, h1, _, h3⟩ := (show h.IsListIter it a i from e)
    exact ⟨o, h1, fun v q => by rw [h3] at q; cases q⟩
  | false =>
    obtain ⟨o, h1, _, h3⟩ := (show h.IsTupleIter it a i from e)
    exact ⟨o, h1, fun v q => by rw [h3] at q; cases q⟩
theorem IterK.keep {b : Bool} {h h' : Heap} {it a : Addr} {i : Nat} (e : IterK b h it a i) (k : ∀ o, h.get? it = some o → h'.get? it = some o) : IterK b h' it a i := by
  cases b with
  | true =>
    obtain ⟨o, h1, h2, h3⟩ := (show h.IsListIter it a i from e)
    exact ⟨o, k o h1, h2, h3⟩
  | false =>
    obtain ⟨o, h1, h2, h3⟩ := (show h.IsTupleIter it a i from e)
    exact ⟨o, k o h1, h2, h3⟩
section
variable {X : Cx} {pins : List (Addr × Obj)} {σ : L2.St} {H : Hp} {s : Shared}
theorem seq_K {b : Bool} {a : Addr} {xs : List V} (J : Inv X pins σ H s) (h : SqK b X.K H a xs) : ∃ its : List Value, Vals xs its ∧ IsK b s.heap a its.toArray ∧ a < s.heap.objs.size := by
  cases b with
  | true =>
    obtain ⟨its, rv, pl, _⟩ := J.list h
    obtain ⟨o, h1, h2⟩ := pl.isList
    exact ⟨its, rv, pl.isList, Heap.lt_size h1⟩
  | false =>
    obtain ⟨its, rv, ⟨o, h1, h2, n, h3⟩, _⟩ := J.tuple h
    exact ⟨its, rv, ⟨o, h1, h2, n, h3⟩, Heap.lt_size h1⟩
theorem inj_K {b : Bool} {a : Addr} {xs ys : List V} (J : Inv X pins σ H s) (h1 : SqK b X.K H a xs) (h2 : SqK b X.K H a ys) : xs = ys := by
  cases b with
  | true => exact J.list_inj h1 h2
  | false => exact J.tuple_inj h1 h2
/-- the i-th item of what stands at a -/
theorem item_K {b : Bool} {a : Addr} {xs : List V} {its : List Value} {i : Nat} {u : Value} {x : V} (rv : Vals xs its) (hu : its.toArray[i]? = some u) (hx : xs[i]? = some x) : RelV x u := by
  obtain ⟨u', hu', ru⟩ := rv.get hx
  have : its[i]? = some u := by simpa using hu
  rw [this] at hu'
  cases hu'
  exact ru
end
/-- enumerate -/
def ItE (b : Bool) (K : PySem.W.Frag) (a : Addr) : It :=
  ⟨fun i H => ∃ (xs : List V) (x : V), SqK b K H a xs ∧ xs[i]? = some x, fun i H v H' => ∃ T x, v = .ref T ∧ H T = none ∧ H' = upd H T (.tup [.int (i : Nat), x]) ∧ ∀ xs, SqK b K H a xs → xs[i]? = some x, fun i H => ∃ xs : List V, SqK b K H a xs ∧ xs.length = i⟩
theorem turn_E {P : Program} {w : World} {K : PySem.W.Frag} {elts : List Expr} {kk : Nat} {tpos : Pos} (b : Bool) (a e it : Addr) (hae : a ≠ e) (hai : a ≠ it) (hei : e ≠ it) :
    Turn P w K (.Tuple elts kk tpos) (ItE b K a) [e, it] e (fun i h => (∃ old, IsEnum h e it ((i : Nat) : Int) old) ∧ IterK b h it a i) where
  mem := by simp
  obj := fun i h st c mem => by
    obtain ⟨⟨old, he⟩, hi⟩ := st
    rcases List.mem_cons.mp mem with q | mem
    · rw [q]
      exact ⟨_, he, fun v z => nomatch z⟩
    · rw [List.mem_singleton.mp mem]
      exact hi.obj
  keep := fun i h h' st k => by
    obtain ⟨⟨old, he⟩, hi⟩ := st
    exact ⟨⟨old, k e (by simp) _ he⟩, hi.keep (k it (by simp))⟩
  item := by
    rintro X rfl rfl rfl hc i pins s σ H E J hf ⟨⟨old, he⟩, hit⟩ ⟨xs, x, hq, hx⟩
    obtain ⟨its, rv, isK, alt⟩ := seq_K J hq
    have elt : e < s.heap.objs.size := Heap.lt_size he
    have ilt : it < s.heap.objs.size := by
      obtain ⟨_, q, _⟩ := hit.obj
      exact Heap.lt_size q
    have len := rv.length
    have ib : i < its.toArray.size := by
      have := (List.getElem?_eq_some_iff.mp hx).1
      simp
      omega
    refine wpAny_pyNext_enum_itemD (draw_K (A := X.A.in1) (J.ok.hd hc) b it a hai its.toArray) he ⟨hit, isK⟩ ib hei (by simp [hei, hae.symm]) fun u h2 tk hu out st2 hT hsz kept => ?_
    refine ⟨_, rfl, wpAny_letOwnedTupleGo_enum (s := { s with heap := h2, toks := tk + 1 }) out fun h3 he3 but => ?_⟩
    have hT3 : h3.get? s.heap.objs.size = some { cls := .type "tuple", data := .seq #[.int i tk, u] } := (but.2 _ (Nat.ne_of_gt elt)).trans hT
    have ru : RelV x u := item_K (b := b) (a := a) rv hu hx
    have fresh : ObjOk X.prog X.w (upd H s.heap.objs.size (.tup [.int (i : Nat), x])) h3 s.heap.objs.size (.tup [.int (i : Nat), x]) :=
      ⟨by show 2 ≤ sizeLine; decide, [.int i tk, u], .cons ⟨_, rfl⟩ (.cons ru .nil), ⟨_, hT3, rfl, _, rfl⟩⟩
    have J3 : Inv X pins σ (upd H s.heap.objs.size (.tup [.int (i : Nat), x])) { s with heap := h3, toks := tk + 1 } :=
      J.turnedNew (ch := [e, it]) (fun c o no q => (but.2 c (fun z => no (by simp [z]))).trans (kept c o (fun z => no (by simp [z])) (fun z => no (by simp [z])) q)) hf (Nat.le_refl _) fresh
    refine ⟨.ref s.heap.objs.size, _, J3, rfl, ⟨_, x, rfl, J.hok.fresh (Nat.le_refl _), rfl, fun ys hy => by rw [inj_K J hy hq]; exact hx⟩, ⟨⟨u, ?_⟩, st2.1.keep fun o q => (but.2 it hei.symm).trans q⟩, fun c mem => ?_⟩
    · have e1 : ((i + 1 : Nat) : Int) = (i : Int) + 1 := by omega
      rw [e1]
      exact he3
    · have lt : c < s.heap.objs.size := by
        rcases List.mem_cons.mp mem with q | mem2
        · rw [q]
          exact elt
        · rw [List.mem_singleton.mp mem2]
          exact ilt
      rw [upd_ne (Nat.ne_of_lt lt)]
      exact (hf c mem).1
  done := by
    rintro X rfl rfl rfl hc i pins s σ H E J hf ⟨⟨old, he⟩, hit⟩ ⟨xs, hq, rfl⟩
    obtain ⟨its, rv, isK, alt⟩ := seq_K J hq
    have len := rv.length
    have es : its.toArray.size = xs.length := by
      rw [List.size_toArray]
      omega
    refine wpAny_pyNext_enum_endD (draw_K (A := X.A.in1) (J.ok.hd hc) b it a hai its.toArray) he (by rw [es]; exact ⟨hit, isK⟩) fun h2 but => ⟨rfl, ?_⟩
    obtain ⟨f0, f1, f2, f3, f4, f5⟩ := hf it (by simp)
    exact J.turned (t' := s.toks) (fun c o no q => but c o no q) f0 f1 f3 f4 f5
  self := fun A i s Q E st h => by
    obtain ⟨⟨_, he⟩, _⟩ := st
    exact wpAny_pyIter_enum he h
theorem enum_new_T {t : Addr} {items : Array Value} : Meets (Builtin.«enumerate.__new__» ⟨[.type "enumerate", .ref t], []⟩) (fun _ R s => s.heap.IsTuple t items ∧
      R (.ok (.ret (.ref (s.heap.push (iterO false t)).objs.size))) { s with heap := (s.heap.push (iterO false t)).push { cls := .type "enumerate", data := .fields #[.none, .bool false, .ref s.heap.objs.size, rawInt 0, .none, .none] } }) := by
  refine .of_wp ?_
  rintro prog w A R ⟨hp, gs, dr, tk, os⟩ ⟨isT, want⟩
  have sub := sub_enumerate
  have it1 : ∀ {A' : Around} {E : Value → Shared → Prop} {Q : Value → Shared → Prop}, Q (.ref hp.objs.size) ⟨hp.push (iterO false t), gs, dr, tk, os⟩ → wpAny (model prog w) A' (pyIter (.ref t)) Q E ⟨hp, gs, dr, tk, os⟩ :=
    fun q => wpAny_pyIter_tuple isT q
  wp_walk using it1
  apply wpAny_stack_any
  intro st
  apply wpAny_pure
  split
  · rename_i c _ _ _ _ _
    cases (c == Value.type "enumerate")
    · wp_walk using it1
      exact ⟨_, rfl, want⟩
    · wp_walk using it1
      exact ⟨_, rfl, want⟩
  · wp_walk using it1
    exact ⟨_, rfl, want⟩
theorem called_enum {b : Bool} {a : Addr} {items : Array Value} {prog : Program} {w : World} {A : Around} {E : Value → Shared → Prop} {s : Shared} {Q : Value → Shared → Prop} (h1 : IsK b s.heap a items)
    (k : ∀ h2, IsEnum h2 (s.heap.objs.size + 1) s.heap.objs.size 0 .none → IterK b h2 s.heap.objs.size a 0 → h2.objs.size = s.heap.objs.size + 2 → (∀ c o, s.heap.get? c = some o → h2.get? c = some o) → Q (.ref (s.heap.objs.size + 1)) { s with heap := h2 }) :
    wpAny (model prog w) A (call (.type "enumerate") [.ref a]) Q E s := by
  cases b with
  | true => exact call_enumerate_list h1 fun h2 x1 x2 x3 x4 => k h2 x1 x2 x3 x4
  | false =>
    refine callType_new F.called_enumerate (by decide) (F.typeCall_enumerate_1 _) (F.newCall_enumerate_1 _) (fun ob => F.args_object_init_2 ob _) F.entry_enumerate_new enum_new_T ⟨h1, ?_⟩
    have z1 : (s.heap.push (iterO false a)).objs.size = s.heap.objs.size + 1 := Heap.size_push ..
    show _ ∧ _
    rw [z1]
    have gE : IsEnum ((s.heap.push (iterO false a)).push { cls := .type "enumerate", data := .fields #[.none, .bool false, .ref s.heap.objs.size, rawInt 0, .none, .none] }) (s.heap.objs.size + 1) s.heap.objs.size 0 .none := by
      have top1 := Heap.get?_push_size (s.heap.push (iterO false a)) (o := { cls := .type "enumerate", data := .fields #[.none, .bool false, .ref s.heap.objs.size, rawInt 0, .none, .none] }) rfl
      rw [z1] at top1
      exact top1
    refine ⟨⟨_, gE, rfl⟩, k _ gE ?_ ?_ ?_⟩
    · exact iter_K (b := false) (Heap.get?_push_of_some _ (Heap.get?_push_size _ rfl))
    · rw [Heap.size_push, z1]
    · intro c o q
      exact Heap.get?_push_of_some _ (Heap.get?_push_of_some _ q)
/-- enumerate(e) of a list or a tuple -/
def iE (b : Bool) (K : PySem.W.Frag) (ta : TA) : TI := fun σ H R => ta σ H fun vs H1 => ∃ a xs, vs = [.ref a] ∧ SqK b K H1 a xs ∧ R (ItE b K a) H1
theorem pi_E (b : Bool) {X : Cx} {e : Expr} {ta : TA} {p pos tpos : Pos} {elts : List Expr} {kk : Nat} (gl : Gl X "enumerate") (no : X.mg "enumerate" = none) (pa : PA X [e] ta) (st : starEach [e] X.env = [(false, eval e X.env)] := by rfl) :
    PI X (.Tuple elts kk tpos) (.Call (.Name "enumerate" p) [e] [] pos) (iE b X.K ta) := by
  constructor
  intro pins s σ H R J want
  refine Call_ (ld_blt J gl no boot_enumerate (PyProof.Rows.callWith_type1 (thn (pa.run pos pins s σ H _ J want) ?_) st rfl))
  rintro us s1 ⟨vs, H1, J1, r1, a, xs, rfl, hq, q⟩
  obtain ⟨u, rfl, ru⟩ := vals1 r1
  cases ru
  obtain ⟨its, rv, isK, alt⟩ := seq_K J1 hq
  refine called_enum isK fun h2 he hit _ kept => wpAny_pyIter_enum he ?_
  have J2 : Inv X pins σ H1 { s1 with heap := h2 } := J1.kept (t' := s1.toks) kept
  refine ⟨s1.heap.objs.size + 1, [s1.heap.objs.size + 1, s1.heap.objs.size], _, _, H1, rfl, J2, turn_E b a (s1.heap.objs.size + 1) s1.heap.objs.size (Nat.ne_of_lt (Nat.lt_succ_of_lt alt)) (Nat.ne_of_lt alt) (Nat.succ_ne_self _), ⟨⟨.none, he⟩, hit⟩, fun c mem => ?_, q⟩
  have le : s1.heap.objs.size ≤ c := by
    rcases List.mem_cons.mp mem with z | mem2
    · rw [z]
      exact Nat.le_succ _
    · rw [List.mem_singleton.mp mem2]
      exact Nat.le_refl _
  exact J1.fpOk le (J1.hok.fresh le)
theorem walk_E {b : Bool} {K : PySem.W.Frag} {a : Addr} {xs : List V} : Walk (ItE b K a) xs.length (fun H => SqK b K H a xs) (YPair (fun i => some (.int (i : Nat))) (fun i => xs[i]?)) := by
  refine ⟨fun i _ hi q => ⟨xs, xs[i], q, by simp [hi]⟩, fun _ q => ⟨xs, q, rfl⟩, fun i H v H' _ q y => ?_⟩
  obtain ⟨T, x, h1, h2, h3, h4⟩ := y
  exact ⟨T, .int (i : Nat), x, h1, h2, h3, rfl, h4 xs q⟩
end G0

namespace G0
open PySem PySem.Spec PyProof.Rows L2
/-! ### zip of two of one length, each a list (true) or a tuple (false) -/
def ItZ (b1 b2 : Bool) (K : PySem.W.Frag) (a1 a2 : Addr) : It :=
  ⟨fun i H => ∃ (xs ys : List V) (x y : V), SqK b1 K H a1 xs ∧ SqK b2 K H a2 ys ∧ xs[i]? = some x ∧ ys[i]? = some y,
    fun i H v H' => ∃ T x y, v = .ref T ∧ H T = none ∧ H' = upd H T (.tup [x, y]) ∧ (∀ xs, SqK b1 K H a1 xs → xs[i]? = some x) ∧ ∀ ys, SqK b2 K H a2 ys → ys[i]? = some y,
    fun i H => ∃ xs ys : List V, SqK b1 K H a1 xs ∧ SqK b2 K H a2 ys ∧ xs.length = i ∧ ys.length = i⟩
theorem turn_Z {P : Program} {w : World} {K : PySem.W.Frag} {elts : List Expr} {kk : Nat} {tpos : Pos} (b1 b2 : Bool) {a1 a2 z TI TO i1 i2 : Addr} (S : ZipSep2 z TI TO i1 i2 [i1, a1] [i2, a2]) (n1 : a1 ≠ i1) (n2 : a2 ≠ i2) :
    Turn P w K (.Tuple elts kk tpos) (ItZ b1 b2 K a1 a2) [z, TI, TO, i1, i2] z (fun i h => IsZip h z TI TO .none ∧ IsTupOf2 h TI (.ref i1) (.ref i2) ∧ (∃ x y, IsTupOf2 h TO x y) ∧ IterK b1 h i1 a1 i ∧ IterK b2 h i2 a2 i) where
  mem := by simp
  obj := fun i h st c hc => by
    obtain ⟨hz, hTI, ⟨x, y, hTO⟩, h1, h2⟩ := st
    have e' : c = z ∨ c = TI ∨ c = TO ∨ c = i1 ∨ c = i2 := by simpa using hc
    rcases e' with q | q | q | q | q
    · rw [q]; exact ⟨_, hz, fun v q => nomatch q⟩
    · rw [q]; exact ⟨_, hTI, fun v q => nomatch q⟩
    · rw [q]; exact ⟨_, hTO, fun v q => nomatch q⟩
    · rw [q]; exact h1.obj
    · rw [q]; exact h2.obj
  keep := fun i h h' st k => by
    obtain ⟨hz, hTI, ⟨x, y, hTO⟩, h1, h2⟩ := st
    exact ⟨k z (by simp) _ hz, k TI (by simp) _ hTI, ⟨x, y, k TO (by simp) _ hTO⟩, h1.keep (k i1 (by simp)), h2.keep (k i2 (by simp))⟩
  item := by
    rintro X rfl rfl rfl hc i pins s σ H E J hf ⟨hz, hTI, ⟨x0, y0, hTO⟩, h1, h2⟩ ⟨xs, ys, x, y, hqx, hqy, hx, hy⟩
    obtain ⟨its, rv, isK, alt⟩ := seq_K J hqx
    obtain ⟨its2, rv2, isK2, alt2⟩ := seq_K J hqy
    have len := rv.length
    have len2 := rv2.length
    have ib : i < its.toArray.size := by
      have := (List.getElem?_eq_some_iff.mp hx).1
      simp
      omega
    have ib2 : i < its2.toArray.size := by
      have := (List.getElem?_eq_some_iff.mp hy).1
      simp
      omega
    have hzl : z < s.heap.objs.size := Heap.lt_size hz
    refine wpAny_pyNext_zipD2_item S (draw_K (A := X.A.in1) (J.ok.hd hc) b1 i1 a1 n1 its.toArray) (draw_K (A := X.A.in1) (J.ok.hd hc) b2 i2 a2 n2 its2.toArray) hz hTI hTO ⟨h1, isK⟩ ⟨h2, isK2⟩ ib ib2 fun u u2 h' tk hu hu2 z' TO' st1 st2 hT hsz hk => ?_
    refine ⟨_, rfl, wpAny_letOwnedTupleGo_zip (s := { s with heap := h', toks := tk }) z' fun h'' z'' sb => ?_⟩
    have hT2 : h''.get? s.heap.objs.size = some { cls := .type "tuple", data := .seq #[u, u2] } := (sb.2 _ (Nat.ne_of_gt hzl)).trans hT
    have ru : RelV x u := item_K (b := b1) (a := a1) rv hu hx
    have ru2 : RelV y u2 := item_K (b := b2) (a := a2) rv2 hu2 hy
    have new : ObjOk X.prog X.w (upd H s.heap.objs.size (.tup [x, y])) h'' s.heap.objs.size (.tup [x, y]) :=
      ⟨by show 2 ≤ sizeLine; decide, [u, u2], .cons ru (.cons ru2 .nil), ⟨_, hT2, rfl, _, rfl⟩⟩
    have J1 : Inv X pins σ (upd H s.heap.objs.size (.tup [x, y])) { s with heap := h'', toks := tk } :=
      J.turnedNew (t' := tk) (ch := [z, TI, TO, i1, i2]) (fun c o hb q => (sb.2 c (fun q' => hb (by simp [q']))).trans (hk c o (fun q' => hb (by simp [q'])) (fun q' => hb (by simp [q'])) (fun q' => hb (by simp [q'])) (fun q' => hb (by simp [q'])) q)) hf (Nat.le_refl _) new
    refine ⟨.ref s.heap.objs.size, _, J1, rfl, ⟨_, x, y, rfl, J.hok.fresh (Nat.le_refl _), rfl, fun l hl => by rw [inj_K J hl hqx]; exact hx, fun l hl => by rw [inj_K J hl hqy]; exact hy⟩, ⟨z'', ?_, ⟨u, u2, ?_⟩, ?_, ?_⟩, fun c hcm => ?_⟩
    · exact (sb.2 _ S.TIz).trans (hk _ _ S.TIz S.TITO S.TIi1 S.TIi2 hTI)
    · exact (sb.2 _ S.TOz).trans TO'
    · exact st1.1.keep fun o q => (sb.2 _ S.zi1.symm).trans q
    · exact st2.1.keep fun o q => (sb.2 _ S.zi2.symm).trans q
    · have hlt : c < s.heap.objs.size := by
        have e' : c = z ∨ c = TI ∨ c = TO ∨ c = i1 ∨ c = i2 := by simpa using hcm
        rcases e' with q | q | q | q | q
        · rw [q]; exact hzl
        · rw [q]; exact Heap.lt_size hTI
        · rw [q]; exact Heap.lt_size hTO
        · rw [q]; obtain ⟨_, e1, _⟩ := h1.obj; exact Heap.lt_size e1
        · rw [q]; obtain ⟨_, e2, _⟩ := h2.obj; exact Heap.lt_size e2
      rw [upd_ne (Nat.ne_of_lt hlt)]
      exact (hf c hcm).1
  done := by
    rintro X rfl rfl rfl hc i pins s σ H E J hf ⟨hz, hTI, ⟨x0, y0, hTO⟩, h1, h2⟩ ⟨xs, ys, hqx, hqy, l1, l2⟩
    obtain ⟨its, rv, isK, alt⟩ := seq_K J hqx
    obtain ⟨its2, rv2, isK2, alt2⟩ := seq_K J hqy
    have len := rv.length
    have len2 := rv2.length
    have es : its.toArray.size = i := by
      rw [List.size_toArray]
      omega
    have es2 : its2.toArray.size = i := by
      rw [List.size_toArray]
      omega
    exact wpAny_pyNext_zipD2_end S (draw_K (A := X.A.in1) (J.ok.hd hc) b1 i1 a1 n1 its.toArray) (draw_K (A := X.A.in1) (J.ok.hd hc) b2 i2 a2 n2 its2.toArray) hz hTI hTO ⟨h1, isK⟩ ⟨h2, isK2⟩ (Nat.le_of_eq es.symm) (Nat.le_of_eq es2.symm) (.inl es.symm) fun h' tk hk => ⟨rfl, J.turnedL (t' := tk) (ch := [z, TI, TO, i1, i2]) (fun c o hb q =>
      hk c o (fun q' => hb (by simp [q'])) (fun q' => hb (by simp [q'])) (fun q' => hb (by simp [q'])) (fun q' => hb (by simp [q'])) q) hf⟩
  self := fun A i s Q E st h => wpAny_pyIter_zip st.1 h
theorem not_two {x a b : Addr} (h1 : x ≠ a) (h2 : x ≠ b) : x ∉ [a, b] := by
  intro h
  rcases List.mem_cons.mp h with q | q
  · exact h1 q
  · exact h2 (List.mem_singleton.mp q)
theorem up {n k : Nat} (h : 0 < k) : ((n + k : Nat) : Addr) ≠ (n : Addr) := fun e => Nat.ne_of_gt (Nat.lt_add_of_pos_right h) e
theorem upa {n k a : Nat} (h : a < n) : ((n + k : Nat) : Addr) ≠ (a : Addr) := fun e => Nat.ne_of_gt (Nat.lt_of_lt_of_le h (Nat.le_add_right n k)) e
theorem ups {n j k : Nat} (h : j ≠ k) : ((n + j : Nat) : Addr) ≠ ((n + k : Nat) : Addr) := fun e => h (Nat.add_left_cancel e)
theorem zip_sep {n a1 a2 : Nat} (la : a1 < n) (lb : a2 < n) : ZipSep2 (n + 4) (n + 2) (n + 3) n (n + 1) [n, a1] [n + 1, a2] where
  TIz := ups (by decide)
  TOz := ups (by decide)
  TITO := ups (by decide)
  TIi1 := up (by decide)
  mem1 := by simp
  zf1 := not_two (up (by decide)) (upa la)
  Tf1 := not_two (up (by decide)) (upa la)
  TIi2 := ups (by decide)
  mem2 := by simp
  zf2 := not_two (ups (by decide)) (upa lb)
  Tf2 := not_two (ups (by decide)) (upa lb)
  sep1_2 := not_two (up (by decide)).symm (fun e => Nat.ne_of_gt lb e)
  sep2_1 := not_two (up (by decide)) (upa la)
def iZ (b1 b2 : Bool) (K : PySem.W.Frag) (ta : TA) : TI := fun σ H R => ta σ H fun vs H1 => ∃ a1 a2 xs ys, vs = [.ref a1, .ref a2] ∧ SqK b1 K H1 a1 xs ∧ SqK b2 K H1 a2 ys ∧ R (ItZ b1 b2 K a1 a2) H1
theorem pi_Z (b1 b2 : Bool) {X : Cx} {e e2 : Expr} {ta : TA} {p pos tpos : Pos} {elts : List Expr} {kk : Nat} (hg : Gl X "zip") (hm : X.mg "zip" = none) (ha : PA X [e, e2] ta)
    (hs : starEach [e, e2] X.env = (false, eval e X.env) :: starEach [e2] X.env := by rfl) (hpl : (backTo pos (starEach [e2] X.env)).any (·.1) = false := by rfl) :
    PI X (.Tuple elts kk tpos) (.Call (.Name "zip" p) [e, e2] [] pos) (iZ b1 b2 X.K ta) := by
  refine ⟨fun pins s σ H R I h => ?_⟩
  refine Call_ (ld_blt I hg hm PyProof.Rows.boot_zip (PyProof.Rows.callWith_type1 (thn (ha.run pos pins s σ H _ I h) fun us s1 ⟨vs, H1, I1, r1, q1⟩ => ?_) hs hpl))
  obtain ⟨a1, a2, xs, ys, rfl, hqx, hqy, q⟩ := q1
  cases r1 with
  | cons r rr =>
    cases rr with
    | cons r' rr =>
      cases rr
      cases r
      cases r'
      obtain ⟨its, rv, isK, la⟩ := seq_K I1 hqx
      obtain ⟨its2, rv2, isK2, lb⟩ := seq_K I1 hqy
      refine zip_begins2 (begin_K b1 a1 its.toArray) (begin_K b2 a2 its2.toArray) isK isK2 fun h' hz hTI hTO h1 h2 hsz hk => wpAny_pyIter_zip hz ?_
      have I2 : Inv X pins σ H1 { s1 with heap := h' } := I1.kept (t' := s1.toks) hk
      have S : ZipSep2 (s1.heap.objs.size + 4) (s1.heap.objs.size + 2) (s1.heap.objs.size + 3) s1.heap.objs.size (s1.heap.objs.size + 1) [s1.heap.objs.size, a1] [s1.heap.objs.size + 1, a2] := by
        exact zip_sep la lb
      refine ⟨s1.heap.objs.size + 4, [s1.heap.objs.size + 4, s1.heap.objs.size + 2, s1.heap.objs.size + 3, s1.heap.objs.size, s1.heap.objs.size + 1], _, _, H1, rfl, I2, turn_Z b1 b2 S (Nat.ne_of_lt la) (Nat.ne_of_lt (Nat.lt_succ_of_lt lb)), ⟨hz, hTI, ⟨_, _, hTO⟩, iter_K h1, iter_K h2⟩, fun c hcm => ?_, q⟩
      have e' : c = s1.heap.objs.size + 4 ∨ c = s1.heap.objs.size + 2 ∨ c = s1.heap.objs.size + 3 ∨ c = s1.heap.objs.size ∨ c = s1.heap.objs.size + 1 := by simpa using hcm
      have hle : s1.heap.objs.size ≤ c := by
        rcases e' with q | q | q | q | q
        · rw [q]; exact Nat.le_add_right _ _
        · rw [q]; exact Nat.le_add_right _ _
        · rw [q]; exact Nat.le_add_right _ _
        · rw [q]; exact Nat.le_refl _
        · rw [q]; exact Nat.le_add_right _ _
      exact I1.fpOk hle (I1.hok.fresh hle)
theorem walk_Z {b1 b2 : Bool} {K : PySem.W.Frag} {a1 a2 : Addr} {xs ys : List V} {n : Nat} (l1 : xs.length = n) (l2 : ys.length = n) : Walk (ItZ b1 b2 K a1 a2) n (fun H => SqK b1 K H a1 xs ∧ SqK b2 K H a2 ys) (YPair (fun i => xs[i]?) (fun i => ys[i]?)) := by
  subst l1
  refine ⟨fun i _ hi q => ?_, fun _ q => ⟨xs, ys, q.1, q.2, rfl, l2⟩, fun i H v H' _ q y => ?_⟩
  · exact ⟨xs, ys, xs[i], ys[i]'(by omega), q.1, q.2, by simp [hi], by simp⟩
  · obtain ⟨T, x, z, h1, h2, h3, h4, h5⟩ := y
    exact ⟨T, x, z, h1, h2, h3, h4 xs q.1, h5 ys q.2⟩
end G0

namespace G0
open PySem PySem.Spec PyProof.Rows L2
section
variable {X : Cx} {pos : Pos}
/-- (a, b, ..) = a list (true) or a tuple (false) of that length -/
def gSeq (k : Bool) (K : PySem.W.Frag) (n : Nat) (t : TGs) : TG := fun v σ H Q => ∃ a xs, v = .ref a ∧ SqK k K H a xs ∧ xs.length = n ∧ t xs σ H Q
theorem pg_seq (kd : Bool) {es : List Expr} {k : Nat} {t : TGs} {n : Nat} (hc : X.calm = true) (h : PGs X es t)
    (hn : (assignEach es X.env).length = n := by rfl) (hst : (assignEach es X.env).findIdx? (·.1) = none := by rfl) : PG X (.Tuple es k pos) (gSeq kd X.K n t) := by
  refine ⟨fun pins s σ H v u Q I r hw => ?_⟩
  obtain ⟨a, xs, rfl, hq, hl, hw⟩ := hw
  cases r
  cases kd with
  | false =>
    obtain ⟨its, rv, ht, hz⟩ := I.tuple hq
    refine assign_Tuple_tuple (I.ok.hd hc) ht (by simp [hn, ← hl, rv.length]) hst fun h' hx => ?_
    have I1 : Inv X pins σ H { s with heap := h' } := I.kept (t' := s.toks) fun b o e => hx b o (Nat.ne_of_lt (Heap.lt_size e)) e
    exact h.run pins _ σ H xs _ Q I1 (by simpa using rv) hw
  | true =>
    obtain ⟨its, rv, isK, la⟩ := seq_K (b := true) I hq
    rw [assign_Tuple]
    refine wpAny_bind (wpAny_standAt ?_)
    unfold unpack
    have e1 : (assignEach es X.env).length = its.toArray.size := by simp [hn, ← hl, rv.length]
    rw [e1, hst]
    refine wpAny_bind (wpAny_holding (PySem.W.kun_itemsOf (I.ok.hd hc) isK fun h' hx => ?_))
    have I1 : Inv X pins σ H { s with heap := h' } := I.kept (t' := s.toks) fun b o e => hx b o (Nat.ne_of_lt (Heap.lt_size e)) e
    exact h.run pins _ σ H xs _ Q I1 (by simpa using rv) hw
end
end G0

namespace G0
open PySem PySem.Spec PyProof.Rows L2
section
variable {K : PySem.W.Frag} {a : Addr} {xs : List V} {g : TG} {tt : TT} {te : TE} {vs : List Nat} {σ : L2.St} {H1 : Hp} {D : Addr} {Qd : Hp → Prop}
/-- a comprehension that adds F i for the i-th item -/
theorem lcI (F : Nat → V) (hl : SqL K H1 a xs) (hn : xs.length < sizeLine) (hD : H1 D = none) (t : ∀ i x, xs[i]? = some x → ∀ H, Same H1 H → ∀ (G : V → Hp → Prop) (N : Hp → Prop), (∀ H', Same H H' → G (F i) H') → g x (wipe σ vs) H fun σ2 H2 => wipe σ2 vs = wipe σ vs ∧ tt σ2 H2 fun b H3 => if b = true then te σ2 H3 G else N H3)
    (hd : ∀ H, Same H1 H → H D = some (.lst ((List.range' 0 xs.length).map F)) → Qd H) :
    ∃ W : Nat → Nat → Hp → Prop, (∃ m, W 0 m (upd H1 D (.lst []))) ∧ ∀ i m H, W i m H →
      ((Itl K a).stop i H ∧ Qd H) ∨ ((Itl K a).go i H ∧ ∃ Nx : Hp → Prop, (∀ H', Nx H' → ∃ m', m' < m ∧ W (i + 1) m' H') ∧ ∀ x H', (Itl K a).yld i H x H' → g x (wipe σ vs) H' fun σ2 H2 => wipe σ2 vs = wipe σ vs ∧ tt σ2 H2 fun b H3 =>
        if b = true then te σ2 H3 fun y H4 => ∃ acc, H4 D = some (.lst acc) ∧ acc.length < sizeLine ∧ Nx (upd H4 D (.lst (acc ++ [y]))) else Nx H3) :=
  lc_list (xs := xs) (fun i H => Same H1 H ∧ H D = some (.lst ((List.range' 0 i).map F))) ⟨same_new hD, upd_same⟩ (fun _ _ _ h => h.1.seq hl)
    (fun i x H hx h => t i x hx H h.1 _ _ fun H' s => by
      have hi := (List.getElem?_eq_some_iff.mp hx).1
      refine ⟨_, s _ _ h.2, ?_, fun b o eb => ?_, ?_⟩
      · rw [List.length_map, List.length_range']
        omega
      · rw [upd_ne (ne_of_none eb hD)]
        exact (h.1.trans s) _ _ eb
      · rw [upd_same, List.range'_concat, List.map_append]
        simp) (fun H h => hd H h.1 h.2)
/-- a comprehension over a tuple -/
theorem lcIT (F : Nat → V) (hl : SqT K H1 a xs) (hn : xs.length < sizeLine) (hD : H1 D = none) (t : ∀ i x, xs[i]? = some x → ∀ H, Same H1 H → ∀ (G : V → Hp → Prop) (N : Hp → Prop), (∀ H', Same H H' → G (F i) H') → g x (wipe σ vs) H fun σ2 H2 => wipe σ2 vs = wipe σ vs ∧ tt σ2 H2 fun b H3 => if b = true then te σ2 H3 G else N H3)
    (hd : ∀ H, Same H1 H → H D = some (.lst ((List.range' 0 xs.length).map F)) → Qd H) :
    ∃ W : Nat → Nat → Hp → Prop, (∃ m, W 0 m (upd H1 D (.lst []))) ∧ ∀ i m H, W i m H →
      ((Itt K a).stop i H ∧ Qd H) ∨ ((Itt K a).go i H ∧ ∃ Nx : Hp → Prop, (∀ H', Nx H' → ∃ m', m' < m ∧ W (i + 1) m' H') ∧ ∀ x H', (Itt K a).yld i H x H' → g x (wipe σ vs) H' fun σ2 H2 => wipe σ2 vs = wipe σ vs ∧ tt σ2 H2 fun b H3 =>
        if b = true then te σ2 H3 fun y H4 => ∃ acc, H4 D = some (.lst acc) ∧ acc.length < sizeLine ∧ Nx (upd H4 D (.lst (acc ++ [y]))) else Nx H3) :=
  lc_tup (xs := xs) (fun i H => Same H1 H ∧ H D = some (.lst ((List.range' 0 i).map F))) ⟨same_new hD, upd_same⟩ (fun _ _ _ h => same_t h.1 hl)
    (fun i x H hx h => t i x hx H h.1 _ _ fun H' s => by
      have hi := (List.getElem?_eq_some_iff.mp hx).1
      refine ⟨_, s _ _ h.2, ?_, fun b o eb => ?_, ?_⟩
      · rw [List.length_map, List.length_range']
        omega
      · rw [upd_ne (ne_of_none eb hD)]
        exact (h.1.trans s) _ _ eb
      · rw [upd_same, List.range'_concat, List.map_append]
        simp) (fun H h => hd H h.1 h.2)
end
end G0

namespace G0
open PySem PySem.Spec PyProof.Rows L2
/-- over what is a list or a tuple, as it comes -/
def iAny (K : PySem.W.Frag) (tl : TE) : TI := fun σ H R => iList K tl σ H R ∨ iTup K tl σ H R
theorem pi_any {X : Cx} {tg l : Expr} {tl : TE} (hl : PE X l tl) : PI X tg l (iAny X.K tl) :=
  ⟨fun pins s σ H R I h => h.elim (fun h => (pi_list hl).run pins s σ H R I h) (fun h => (pi_tup hl).run pins s σ H R I h)⟩
end G0

namespace G0
/-! ### rows that can be: step by step, and by places -/
def ffGo : Nat → Int → Int → List Int → Option Nat
  | _, _, _, [] => none
  | p, a, t, n :: ns => if p = 9 ∨ 24 < t + n ∨ ¬ ((a = (p : Int) ∧ n = (p : Int) + 1) ∨ (0 < n ∧ n ≤ a)) then some p else ffGo (p + 1) n (t + n) ns
def ff (ns : List Int) : Option Nat := ffGo 0 0 0 ns
def lastI (a : Int) (ns : List Int) : Int := ns.getLast?.getD a
theorem lastI_snoc (a n : Int) (ns : List Int) : lastI a (ns ++ [n]) = n := by simp [lastI]
theorem lastI_cons (a n : Int) (ns : List Int) : lastI a (n :: ns) = lastI n ns := by
  unfold lastI
  cases ns with
  | nil => rfl
  | cons m ns => simp [List.getLast?_cons]
theorem ffGo_app : ∀ (xs : List Int) (p : Nat) (a t : Int) (ys : List Int), ffGo p a t (xs ++ ys) = match ffGo p a t xs with | some k => some k | none => ffGo (p + xs.length) (lastI a xs) (t + xs.sum) ys
  | [], p, a, t, ys => by simp [ffGo, lastI]
  | x :: xs, p, a, t, ys => by
    have c : ∀ zs : List Int, ffGo p a t (x :: zs) = if p = 9 ∨ 24 < t + x ∨ ¬ ((a = (p : Int) ∧ x = (p : Int) + 1) ∨ (0 < x ∧ x ≤ a)) then some p else ffGo (p + 1) x (t + x) zs := fun zs => by rw [ffGo]
    rw [List.cons_append, c, c]
    by_cases q : p = 9 ∨ 24 < t + x ∨ ¬ ((a = (p : Int) ∧ x = (p : Int) + 1) ∨ (0 < x ∧ x ≤ a))
    · rw [if_pos q, if_pos q]
    · rw [if_neg q, if_neg q, ffGo_app xs, lastI_cons, List.length_cons, List.sum_cons, show p + 1 + xs.length = p + (xs.length + 1) by omega, show t + x + xs.sum = t + (x + xs.sum) by omega]
def okStep (p : Nat) (a t n : Int) : Prop := p ≠ 9 ∧ t + n ≤ 24 ∧ ((a = (p : Int) ∧ n = (p : Int) + 1) ∨ (0 < n ∧ n ≤ a))
instance (p : Nat) (a t n : Int) : Decidable (okStep p a t n) := by unfold okStep; infer_instance
theorem ff_snoc (xs : List Int) (n : Int) : ff (xs ++ [n]) = match ff xs with | some k => some k | none => if okStep xs.length (lastI 0 xs) xs.sum n then none else some xs.length := by
  unfold ff
  rw [ffGo_app]
  cases ffGo 0 0 0 xs with
  | some k => rfl
  | none =>
    show ffGo _ _ _ [n] = _
    unfold ffGo
    rw [Nat.zero_add, Int.zero_add]
    by_cases h : okStep xs.length (lastI 0 xs) xs.sum n
    · rw [if_pos h, if_neg]
      · rfl
      · intro q
        obtain ⟨h1, h2, h3⟩ := h
        rcases q with q | q | q
        · exact h1 q
        · omega
        · exact q h3
    · rw [if_neg h, if_pos]
      by_cases h1 : xs.length = 9
      · exact .inl h1
      · by_cases h2 : 24 < xs.sum + n
        · exact .inr (.inl h2)
        · exact .inr (.inr fun h3 => h ⟨h1, by omega, h3⟩)
theorem ff_take {ns : List Int} {i : Nat} {n : Int} (hn : ns[i]? = some n) (h0 : ff (ns.take i) = none) : ff (ns.take (i + 1)) = (if okStep i (lastI 0 (ns.take i)) (ns.take i).sum n then none else some i) := by
  have hi := (List.getElem?_eq_some_iff.mp hn).1
  have e : ns.take (i + 1) = ns.take i ++ [n] := by rw [List.take_add_one, hn]; rfl
  rw [e, ff_snoc, h0, List.length_take, Nat.min_eq_left (by omega)]
theorem ff_stop {ns : List Int} {i k : Nat} (h : ff (ns.take i) = some k) : ff ns = some k := by
  have e : ns = ns.take i ++ ns.drop i := (List.take_append_drop i ns).symm
  rw [e]
  unfold ff
  rw [ffGo_app]
  unfold ff at h
  rw [h]
theorem ff_pre {ns : List Int} (i : Nat) (h : ff ns = none) : ff (ns.take i) = none := by
  cases e : ff (ns.take i) with
  | none => rfl
  | some k => rw [ff_stop e] at h; cases h
/-- the places of numbers above j -/
def plcGo (j : Int) : Nat → List Int → List Nat
  | _, [] => []
  | k, n :: ns => (if j < n then [k] else []) ++ plcGo j (k + 1) ns
def plc (j : Int) (ns : List Int) : List Nat := plcGo j 0 ns
theorem plcGo_app (j : Int) : ∀ (xs : List Int) (k : Nat) (ys : List Int), plcGo j k (xs ++ ys) = plcGo j k xs ++ plcGo j (k + xs.length) ys
  | [], k, ys => by simp [plcGo]
  | x :: xs, k, ys => by
    rw [List.cons_append, plcGo, plcGo, plcGo_app j xs, List.append_assoc, List.length_cons, show k + 1 + xs.length = k + (xs.length + 1) by omega]
theorem plc_snoc (j : Int) (xs : List Int) (n : Int) : plc j (xs ++ [n]) = plc j xs ++ if j < n then [xs.length] else [] := by
  unfold plc
  rw [plcGo_app]
  simp [plcGo]
theorem plcGo_mem (j : Int) : ∀ (xs : List Int) (k i : Nat), i ∈ plcGo j k xs → k ≤ i ∧ i < k + xs.length
  | [], k, i, h => by simp [plcGo] at h
  | x :: xs, k, i, h => by
    unfold plcGo at h
    rw [List.length_cons]
    rcases List.mem_append.mp h with h | h
    · by_cases q : j < x
      · rw [if_pos q] at h
        have := List.mem_singleton.mp h
        omega
      · rw [if_neg q] at h
        cases h
    · have := plcGo_mem j xs (k + 1) i h
      omega
theorem plc_lt {j : Int} {xs : List Int} {i : Nat} (h : i ∈ plc j xs) : i < xs.length := by
  have := plcGo_mem j xs 0 i h
  omega
theorem plcGo_nil (j : Int) : ∀ (xs : List Int) (k : Nat), (∀ m ∈ xs, m ≤ j) → plcGo j k xs = []
  | [], k, h => rfl
  | x :: xs, k, h => by
    unfold plcGo
    have := h x (by simp)
    rw [if_neg (by omega), plcGo_nil j xs (k + 1) fun m hm => h m (by simp [hm])]
    rfl
theorem plcGo_ne (j : Int) : ∀ (xs : List Int) (k : Nat), (∃ m ∈ xs, j < m) → plcGo j k xs ≠ []
  | [], k, h => by simp at h
  | x :: xs, k, h => by
    unfold plcGo
    by_cases q : j < x
    · rw [if_pos q]
      simp
    · rw [if_neg q, List.nil_append]
      refine plcGo_ne j xs (k + 1) ?_
      obtain ⟨m, hm, hl⟩ := h
      rcases List.mem_cons.mp hm with rfl | hm
      · exact absurd hl q
      · exact ⟨m, hm, hl⟩
structure RowI (ns : List Int) : Prop where
  len : ns.length ≤ 9
  pos : ∀ n ∈ ns, 0 < n
  sum : ns.sum ≤ 24
  pl : ∀ j : Nat, (∃ m ∈ ns, (j : Int) < m) → plc (j : Int) ns = List.range' j (plc (j : Int) ns).length
def Can (ns : List Int) : Prop := ns ≠ [] ∧ RowI ns
theorem range_pre {A B : List Nat} {j L : Nat} (h : A ++ B = List.range' j L) : A = List.range' j A.length := by
  have e : A = (List.range' j L).take A.length := by rw [← h]; simp
  have l : A.length ≤ L := by
    have := congrArg List.length h
    simp at this
    omega
  have tr : ∀ (n s m : Nat), m ≤ n → (List.range' s n).take m = List.range' s m := by
    intro n
    induction n with
    | zero =>
      intro s m h
      rw [show m = 0 by omega]
      rfl
    | succ n ih =>
      intro s m h
      cases m with
      | zero => rfl
      | succ m => rw [List.range'_succ, List.range'_succ, List.take_succ_cons, ih _ _ (by omega)]
  exact e.trans (tr _ _ _ l)
theorem range_snoc {A : List Nat} {j p L : Nat} (h : A ++ [p] = List.range' j L) : p = j + A.length := by
  have l : L = A.length + 1 := by
    have := congrArg List.length h
    simp at this
    omega
  rw [l, List.range'_concat] at h
  have := (List.append_inj' h (by simp)).2
  simpa using this
theorem row_le {xs : List Int} (r : RowI xs) : ∀ m ∈ xs, m ≤ (xs.length : Int) := by
  intro m hm
  by_cases h : (xs.length : Int) < m
  · have e := r.pl xs.length ⟨m, hm, h⟩
    have ne : plc (xs.length : Int) xs ≠ [] := plcGo_ne _ xs 0 ⟨m, hm, h⟩
    have l : 0 < (plc (xs.length : Int) xs).length := List.length_pos_iff.mpr ne
    have mem : xs.length ∈ plc (xs.length : Int) xs := by
      rw [e, List.mem_range'_1]
      omega
    exact absurd (plc_lt mem) (by omega)
  · omega
theorem snoc_cases (xs : List Int) : xs = [] ∨ ∃ ys a, xs = ys ++ [a] := by
  rcases List.eq_nil_or_concat xs with h | ⟨ys, a, h⟩
  · exact .inl h
  · exact .inr ⟨ys, a, by simpa using h⟩
theorem row_snoc (xs : List Int) (n : Int) : RowI (xs ++ [n]) ↔ RowI xs ∧ okStep xs.length (lastI 0 xs) xs.sum n := by
  have sumE : (xs ++ [n]).sum = xs.sum + n := by simp
  have lenE : (xs ++ [n]).length = xs.length + 1 := by simp
  constructor
  · intro r
    have len := r.len
    have sm := r.sum
    rw [lenE] at len
    rw [sumE] at sm
    have n0 : 0 < n := r.pos n (by simp)
    have rx : RowI xs := by
      refine ⟨by omega, fun m hm => r.pos m (by simp [hm]), by omega, fun j hj => ?_⟩
      obtain ⟨m, hm, hl⟩ := hj
      have e := r.pl j ⟨m, by simp [hm], hl⟩
      rw [plc_snoc] at e
      exact range_pre e
    refine ⟨rx, by omega, sm, ?_⟩
    by_cases h : n ≤ lastI 0 xs
    · exact .inr ⟨n0, h⟩
    · left
      have a0 : 0 ≤ lastI 0 xs := by
        rcases snoc_cases xs with rfl | ⟨ys, a, rfl⟩
        · simp [lastI]
        · rw [lastI_snoc]
          have := rx.pos a (by simp)
          omega
      obtain ⟨j, hj⟩ := Int.eq_ofNat_of_zero_le a0
      have e := r.pl j ⟨n, by simp, by omega⟩
      rw [plc_snoc, if_pos (by omega)] at e
      have pj := range_snoc e
      have jp : j = xs.length := by
        rcases snoc_cases xs with rfl | ⟨ys, a, rfl⟩
        · simp [lastI] at hj
          simp
          omega
        · rw [lastI_snoc] at hj
          have e2 : plc (j : Int) (ys ++ [a]) = plc (j : Int) ys := by rw [plc_snoc, if_neg (by omega), List.append_nil]
          by_cases z : plc (j : Int) ys = []
          · rw [e2, z] at pj
            simp at pj
            simp
            omega
          · have e3 := range_pre e
            rw [e2] at e3 pj
            have lp : 0 < (plc (j : Int) ys).length := List.length_pos_iff.mpr z
            have mem : j + (plc (j : Int) ys).length - 1 ∈ plc (j : Int) ys := by
              rw [e3, List.mem_range'_1]
              rw [← e3]
              omega
            have := plc_lt mem
            simp at pj
            omega
      refine ⟨by omega, ?_⟩
      by_cases h2 : n = (xs.length : Int) + 1
      · exact h2
      · exfalso
        have h3 : ((xs.length + 1 : Nat) : Int) < n := by omega
        have e := r.pl (xs.length + 1) ⟨n, by simp, h3⟩
        rw [plc_snoc, if_pos h3] at e
        have := range_snoc e
        omega
  · rintro ⟨r, h9, h24, hs⟩
    have n0 : 0 < n := by
      rcases hs with ⟨_, h⟩ | ⟨h, _⟩ <;> omega
    have := r.len
    refine ⟨by rw [lenE]; omega, fun m hm => ?_, by rw [sumE]; exact h24, fun j hj => ?_⟩
    · rcases List.mem_append.mp hm with hm | hm
      · exact r.pos m hm
      · rw [List.mem_singleton.mp hm]
        exact n0
    · rw [plc_snoc]
      by_cases hn : (j : Int) < n
      · rw [if_pos hn]
        have key : plc (j : Int) xs = List.range' j (plc (j : Int) xs).length ∧ j + (plc (j : Int) xs).length = xs.length := by
          by_cases ja : (j : Int) < lastI 0 xs
          · rcases snoc_cases xs with rfl | ⟨ys, a, rfl⟩
            · simp [lastI] at ja
              omega
            · rw [lastI_snoc] at ja
              have e := r.pl j ⟨a, by simp, ja⟩
              refine ⟨e, ?_⟩
              rw [plc_snoc, if_pos ja] at e
              have := range_snoc e
              rw [plc_snoc, if_pos ja]
              simp
              omega
          · have jp : j = xs.length := by
              rcases hs with ⟨h1, h2⟩ | ⟨h1, h2⟩ <;> omega
            have z : plc (j : Int) xs = [] := plcGo_nil _ xs 0 fun m hm => by
              have := row_le r m hm
              omega
            rw [z]
            simp
            omega
        rw [List.length_append, List.length_singleton, List.range'_concat, ← key.1]
        congr 2
        omega
      · rw [if_neg hn, List.append_nil]
        refine r.pl j ?_
        obtain ⟨m, hm, hl⟩ := hj
        rcases List.mem_append.mp hm with hm | hm
        · exact ⟨m, hm, hl⟩
        · rw [List.mem_singleton.mp hm] at hl
          exact absurd hl hn
theorem row_iff (ns : List Int) : RowI ns ↔ ff ns = none := by
  have gen : ∀ (k : Nat) (ns : List Int), ns.length = k → (RowI ns ↔ ff ns = none) := by
    intro k
    induction k with
    | zero =>
      intro ns h
      obtain rfl := List.length_eq_zero_iff.mp h
      exact ⟨fun _ => rfl, fun _ => ⟨by simp, by simp, by simp, fun j hj => by simp at hj⟩⟩
    | succ k ih =>
      intro ns h
      rcases snoc_cases ns with rfl | ⟨ys, a, rfl⟩
      · cases h
      · have hl : ys.length = k := by simpa using h
        rw [row_snoc, ff_snoc, ih ys hl]
        cases ff ys with
        | some k => simp
        | none =>
          show _ ↔ (if okStep _ _ _ _ then none else some _) = none
          by_cases q : okStep ys.length (lastI 0 ys) ys.sum a
          · rw [if_pos q]
            simp [q]
          · rw [if_neg q]
            simp [q]
  exact gen _ ns rfl
theorem can_iff {ns : List Int} (h : ns ≠ []) : Can ns ↔ ff ns = none := ⟨fun c => (row_iff ns).mp c.2, fun e => ⟨h, (row_iff ns).mpr e⟩⟩
end G0

namespace G0
open PySem PySem.Spec PyProof.Rows L2
def top (i : Nat) : Stmt := PySem.Challenge.pw_pointrows_k51_any_value_as_row.main.body.getD i (.Pass ⟨0, 0, 0, 0⟩)
abbrev s_is_integer : Stmt := top 1
abbrev s_is_count : Stmt := top 2
abbrev s_is_list : Stmt := top 3
theorem sc_is_integer : FnScope ["value"] ["value"] (defScope s_is_integer) := ⟨rfl, rfl, rfl, by decide +kernel, rfl, by decide +kernel, by decide +kernel⟩
theorem sc_is_list : FnScope ["value"] ["value"] (defScope s_is_list) := ⟨rfl, rfl, rfl, by decide +kernel, rfl, by decide +kernel, by decide +kernel⟩
/-- a def of the top: where it stands, that its name tells it, how it binds -/
structure Df (K : PySem.W.Frag) (mg : Str → Option Value) (x : Str) (st : Stmt) (ps : List Str) (f : Addr) (fd : FuncData) : Prop where
  F : Fun K x x st f fd
  g : mg x = some (.ref f)
  b : Binds K fd ps []
theorem pdf {X : Cx} {k : Nat} {f : Addr} {fd : FuncData} {ps : List Str} {sp : Sp} {x : Str} {st : Stmt} {p pos : Pos} {e : Expr} {es : List Expr} {t : TA} (D : Df X.K X.mg x st ps f fd) (G : FnOk X.prog X.w X.K X.mg X.base CX0 k f fd ps sp) (hr : Room k X.A) (ha : PA X (e :: es) t) (hg : Gl X x := by rfl)
    (hdb : (x == ("__debug__" : Str)) = false := by decide) (he : starEach (e :: es) X.env = (false, eval e X.env) :: starEach es X.env := by rfl) (hpl : (backTo pos (starEach es X.env)).any (·.1) = false := by rfl) :
    PE X (.Call (.Name x p) (e :: es) [] pos) (tCall sp [] E0 t) := pe_call G hr hg D.g D.F.kp D.b .nil pass0 ha hdb he hpl
/-- the built-in names are the built-in ones still -/
structure Blt (mg : Str → Option Value) : Prop where
  isinstance : mg "isinstance" = none
  int : mg "int" = none
  bool : mg "bool" = none
  list : mg "list" = none
  tuple : mg "tuple" = none
  len : mg "len" = none
  all : mg "all" = none
  any : mg "any" = none
  abs : mg "abs" = none
  max : mg "max" = none
  min : mg "min" = none
  divmod : mg "divmod" = none
  range : mg "range" = none
  repr : mg "repr" = none
  enumerate : mg "enumerate" = none
  sum : mg "sum" = none
  sorted : mg "sorted" = none
  str : mg "str" = none
  dict : mg "dict" = none

section
variable {P : Program} {w : World} {K : PySem.W.Frag} {mg : Str → Option Value} {base : Heap}
theorem pty {X : Cx} {x : Str} {p : Pos} {n : String} (hm : X.mg x = none) (hv : bootBuiltins x = some (.type n)) (hg : Gl X x := by rfl) (hn : x ≠ "__name__" := by decide) (hdb : (x == ("__debug__" : Str)) = false := by decide) : PE X (.Name x p) (tC (.ty n)) :=
  pe_bltn hg hm hv (show RelV (.ty n) (.type n) from rfl) hn hdb
theorem boot_isi : bootBuiltins "isinstance" = some (.builtin "isinstance") := by decide +kernel
theorem boot_tint : bootBuiltins "int" = some (.type "int") := by decide +kernel
theorem boot_tbool : bootBuiltins "bool" = some (.type "bool") := by decide +kernel
theorem boot_tlist : bootBuiltins "list" = some (.type "list") := by decide +kernel
theorem boot_ttuple : bootBuiltins "tuple" = some (.type "tuple") := by decide +kernel
theorem boot_all : bootBuiltins "all" = some (.builtin "all") := by decide +kernel
theorem boot_any : bootBuiltins "any" = some (.builtin "any") := by decide +kernel
theorem kit_ii : PySem.W.kitOne K (.type "int") (.type "int") = some true := kit_ty (by decide +kernel)
theorem kit_ib : PySem.W.kitOne K (.type "int") (.type "bool") = some false := kit_ty (by decide +kernel)
theorem kit_ll : PySem.W.kitOne K (.type "list") (.type "list") = some true := kit_ty (by decide +kernel)
theorem kit_tl : PySem.W.kitOne K (.type "tuple") (.type "list") = some false := kit_ty (by decide +kernel)
theorem kit_tt : PySem.W.kitOne K (.type "tuple") (.type "tuple") = some true := kit_ty (by decide +kernel)


theorem boot_sum : bootBuiltins "sum" = some (.builtin "sum") := by decide +kernel
theorem boot_max : bootBuiltins "max" = some (.builtin "max") := by decide +kernel
theorem boot_min : bootBuiltins "min" = some (.builtin "min") := by decide +kernel
theorem boot_abs : bootBuiltins "abs" = some (.builtin "abs") := by decide +kernel
theorem boot_divmod : bootBuiltins "divmod" = some (.builtin "divmod") := by decide +kernel
theorem boot_repr : bootBuiltins "repr" = some (.builtin "repr") := by decide +kernel
theorem boot_sorted : bootBuiltins "sorted" = some (.builtin "sorted") := by decide +kernel
theorem boot_trange : bootBuiltins "range" = some (.type "range") := by decide +kernel
theorem boot_tstr : bootBuiltins "str" = some (.type "str") := by decide +kernel
theorem boot_tdict : bootBuiltins "dict" = some (.type "dict") := by decide +kernel
end
/-! ### any value, as far as the program looks at it -/
inductive AV where
  | int (n : Int)
  | other
  | seq (xs : List AV)
mutual
inductive AVal (K : PySem.W.Frag) (H : Hp) : V → AV → Prop where
  | int (n : Int) : AVal K H (.int n) (.int n)
  | other {v : V} {t : Value} {i b : Bool} (ty : TyX K H v t) (k1 : PySem.W.kitOne K t (.type "int") = some i) (k2 : PySem.W.kitOne K t (.type "bool") = some b) (no : (i && !b) = false) (k3 : PySem.W.kitOne K t (.type "list") = some false) (k4 : PySem.W.kitOne K t (.type "tuple") = some false) : AVal K H v .other
  | seq {a : Addr} {vs : List V} {xs : List AV} (h : Sq K H a vs) (hs : AVals K H vs xs) : AVal K H (.ref a) (.seq xs)
inductive AVals (K : PySem.W.Frag) (H : Hp) : List V → List AV → Prop where
  | nil : AVals K H [] []
  | cons {v : V} {vs : List V} {x : AV} {xs : List AV} : AVal K H v x → AVals K H vs xs → AVals K H (v :: vs) (x :: xs)
end
theorem tyof_same {K : PySem.W.Frag} {H H' : Hp} {v : V} {t : Value} (e : Same H H') (h : TyOf K H v t) : TyOf K H' v t := by
  cases h with
  | non => exact .non
  | bl b => exact .bl b
  | int n => exact .int n
  | str z => exact .str z
  | flt z => exact .flt z
  | lst q => exact .lst (e _ _ q)
  | frz q => exact .frz (e _ _ q)
  | tup q => exact .tup (e _ _ q)
  | dK q => exact .dK (e _ _ q)
  | dT q => exact .dT (e _ _ q)
  | ins q cl ha hn htk hm => exact .ins (e _ _ q) cl ha hn htk hm
theorem tyx_same {K : PySem.W.Frag} {H H' : Hp} {v : V} {t : Value} (e : Same H H') (h : TyX K H v t) : TyX K H' v t := by
  cases h with
  | base h => exact .base (tyof_same e h)
  | byt b => exact .byt b
  | set q => exact .set (e _ _ q)
  | kList q c => exact .kList q c
  | kTuple q c => exact .kTuple q c
  | kDict q c => exact .kDict q c
  | fTuple q => exact .fTuple (e _ _ q)
  | fDict q => exact .fDict (e _ _ q)
mutual
theorem AVal.same {K : PySem.W.Frag} {H H' : Hp} (e : Same H H') : ∀ {v : V} {x : AV}, AVal K H v x → AVal K H' v x
  | _, _, .int n => .int n
  | _, _, .other ty k1 k2 no k3 k4 => .other (tyx_same e ty) k1 k2 no k3 k4
  | _, _, .seq h hs => .seq (h.same e) (AVals.same e hs)
theorem AVals.same {K : PySem.W.Frag} {H H' : Hp} (e : Same H H') : ∀ {vs : List V} {xs : List AV}, AVals K H vs xs → AVals K H' vs xs
  | _, _, .nil => .nil
  | _, _, .cons h hs => .cons (AVal.same e h) (AVals.same e hs)
end
def AV.isInt : AV → Bool
  | .int _ => true
  | _ => false
def AV.isSeq : AV → Bool
  | .seq _ => true
  | _ => false
def AV.isThree : AV → Bool
  | .seq xs => decide (xs.length = 3) && xs.all AV.isInt
  | _ => false
theorem AVals.len {K : PySem.W.Frag} {H : Hp} : ∀ {vs : List V} {xs : List AV}, AVals K H vs xs → vs.length = xs.length
  | _, _, .nil => rfl
  | _, _, .cons _ h => by rw [List.length_cons, List.length_cons, AVals.len h]
theorem AVals.at {K : PySem.W.Frag} {H : Hp} : ∀ {vs : List V} {xs : List AV} {i : Nat} {v : V}, AVals K H vs xs → vs[i]? = some v → ∃ x, xs[i]? = some x ∧ AVal K H v x
  | _, _, 0, _, .cons h _, e => by
    cases e
    exact ⟨_, rfl, h⟩
  | _, _, i + 1, _, .cons _ h, e => AVals.at (i := i) h e
section
variable {P : Program} {w : World} {K : PySem.W.Frag} {mg : Str → Option Value} {base : Heap}
def sp_intA (K : PySem.W.Frag) : Sp := fun vs H Q _ => ∃ (v : V) (x : AV), vs = [v] ∧ AVal K H v x ∧ Q (.bl x.isInt) H
theorem kit_li {K : PySem.W.Frag} : PySem.W.kitOne K (.type "list") (.type "int") = some false := rfl
theorem kit_ti {K : PySem.W.Frag} : PySem.W.kitOne K (.type "tuple") (.type "int") = some false := rfl
theorem ok_intA {f : Addr} {fd : FuncData} (F : Fun K "is_integer" "is_integer" s_is_integer f fd) (B : Blt mg) : FnOk P w K mg base CX0 1 f fd ["value"] (sp_intA K) := by
  refine F.ok sc_is_integer (fun vs H Q E h => ?_) (fun cdv A outer s H vs Q E hr h => ?_)
  · obtain ⟨v, x, rfl, _⟩ := h
    rfl
  · obtain ⟨v, x, rfl, hv, q⟩ := h
    refine ⟨_, pss_one (ps_ret (pe_and (pe_callB call_isi (by rfl) B.isinstance boot_isi (pa_cons (pv 0) (pa_cons (pty B.int boot_tint) pa_nil)))
      (pe_one (pe_not (pe_callB call_isi (by rfl) B.isinstance boot_isi (pa_cons (pv 0) (pa_cons (pty B.bool boot_tbool) pa_nil))))))), ?_⟩
    cases hv with
    | int n =>
      refine ⟨_, rfl, _, _, _, _, true, rfl, .ty "int", .base (.int n), kit_ii, true, rfl, iteT ?_⟩
      exact ⟨_, rfl, _, _, _, _, false, rfl, .ty "bool", .base (.int n), kit_ib, false, rfl, q⟩
    | @other _ t i b ty k1 k2 no k3 k4 =>
      refine ⟨_, rfl, _, _, _, _, i, rfl, .ty "int", ty, k1, i, rfl, ?_⟩
      cases i with
      | false => exact iteF q
      | true =>
        refine iteT ?_
        cases b with
        | true => exact ⟨_, rfl, _, _, _, _, true, rfl, .ty "bool", ty, k2, true, rfl, q⟩
        | false => cases no
    | seq h hs =>
      rcases h with h | h
      · exact ⟨_, rfl, _, _, _, _, false, rfl, .ty "int", ty_l h, kit_li, false, rfl, iteF q⟩
      · exact ⟨_, rfl, _, _, _, _, false, rfl, .ty "int", ty_t h, kit_ti, false, rfl, iteF q⟩
def sp_listA (K : PySem.W.Frag) : Sp := fun vs H Q _ => ∃ (v : V) (x : AV), vs = [v] ∧ AVal K H v x ∧ ∀ H', Same H H' → Q (.bl x.isSeq) H'
theorem kit_il {K : PySem.W.Frag} : PySem.W.kitOne K (.type "int") (.type "list") = some false := rfl
theorem kit_it {K : PySem.W.Frag} : PySem.W.kitOne K (.type "int") (.type "tuple") = some false := rfl
theorem ok_listA {f : Addr} {fd : FuncData} (F : Fun K "is_list" "is_list" s_is_list f fd) (B : Blt mg) : FnOk P w K mg base CX0 1 f fd ["value"] (sp_listA K) := by
  refine F.ok sc_is_list (fun vs H Q E h => ?_) (fun cdv A outer s H vs Q E hr h => ?_)
  · obtain ⟨v, x, rfl, _⟩ := h
    rfl
  · obtain ⟨v, x, rfl, hv, q⟩ := h
    refine ⟨_, pss_one (ps_ret (pe_callB call_isiT (by rfl) B.isinstance boot_isi (pa_cons (pv 0) (pa_cons (pe_tup (pa_cons (pty B.list boot_tlist) (pa_cons (pty B.tuple boot_ttuple) pa_nil))) pa_nil)))), ?_⟩
    refine ⟨_, rfl, by show 2 ≤ sizeLine; decide, fun p hp => ?_⟩
    have s1 : Same H (upd H p (.tup [.ty "list", .ty "tuple"])) := same_new hp
    have q1 := q _ s1
    cases hv with
    | int n => exact ⟨_, p, _, _, _, false, rfl, upd_same, .cons (.ty "list") (.cons (.ty "tuple") .nil), .base (.int n), kitAny_cons (r := false) kit_il (fun _ => kitAny_cons kit_it (fun _ => rfl) (fun z => nomatch z)) (fun z => nomatch z), q1⟩
    | other ty k1 k2 no k3 k4 => exact ⟨_, p, _, _, _, false, rfl, upd_same, .cons (.ty "list") (.cons (.ty "tuple") .nil), tyx_same s1 ty, kitAny_cons (r := false) k3 (fun _ => kitAny_cons k4 (fun _ => rfl) (fun z => nomatch z)) (fun z => nomatch z), q1⟩
    | seq hs hq =>
      rcases hs with hs | hs
      · exact ⟨_, p, _, _, _, true, rfl, upd_same, .cons (.ty "list") (.cons (.ty "tuple") .nil), ty_l (s1.seq hs), kitAny_cons kit_ll (fun z => nomatch z) fun _ => rfl, q1⟩
      · exact ⟨_, p, _, _, _, true, rfl, upd_same, .cons (.ty "list") (.cons (.ty "tuple") .nil), ty_t (same_t s1 hs), kitAny_cons (r := true) kit_tl (fun _ => kitAny_cons kit_tt (fun z => nomatch z) fun _ => rfl) (fun z => nomatch z), q1⟩
end

section
variable {P : Program} {w : World} {K : PySem.W.Frag} {mg : Str → Option Value} {base : Heap}
theorem isiK {X : Cx} {K : PySem.W.Frag} (h : X.K = K) : CallR X (.builtin "isinstance") (rIsi K) := by
  subst h
  exact call_isi

end
end G0
namespace G0
open PySem PySem.Spec PyProof.Rows L2
abbrev s_pot : Stmt := top 15
abbrev s_draw : Stmt := top 16
theorem seq_join {ta tb : TS} {D : Ends} {σ : L2.St} {H : Hp} (S : L2.St → Hp → Prop) (h1 : ∀ N : L2.St → Hp → Prop, (∀ σ H, S σ H → N σ H) → ta { D with nx := N } σ H) (h2 : ∀ σ H, S σ H → tb D σ H) : tSeq ta tb D σ H := h1 _ h2
/-! ### a law's pot: a list of two ints, changed by each draw; D: what else is known -/
structure Wd (p : Addr) (D H : Hp) : Prop where
  s : Same D H
  n : D p = none
  pot : ∃ a b : Int, 0 ≤ a ∧ 0 ≤ b ∧ b < 4294967296 ∧ H p = some (.lst [.int a, .int b])
theorem Wd.pure {p : Addr} {D H H' : Hp} (w : Wd p D H) (e : Same H H') : Wd p D H' := by
  obtain ⟨s, n, a, b, h1, h2, h3, h4⟩ := w
  exact ⟨s.trans e, n, a, b, h1, h2, h3, e _ _ h4⟩
theorem Wd.got {p q : Addr} {D H : Hp} {o : HO} (w : Wd p D H) (h0 : D q = none) (hp : q ≠ p) (h : H q = some o) : Wd p (upd D q o) H := by
  refine ⟨fun b u e => ?_, ?_, w.pot⟩
  · by_cases eb : b = q
    · subst eb
      rw [upd_same] at e
      cases e
      exact h
    · rw [upd_ne eb] at e
      exact w.s _ _ e
  · rw [upd_ne hp.symm]
    exact w.n
theorem Wd.ne {p q : Addr} {D H : Hp} (w : Wd p D H) (h : H q = none) : q ≠ p := by
  obtain ⟨a, b, _, _, _, h4⟩ := w.pot
  exact (ne_of_none h4 h).symm
/-- a new object, made from H on -/
theorem Wd.new {p q : Addr} {D H H' : Hp} {o : HO} (w : Wd p D H) (e : Same H H') (h : H q = none) (hq : H' q = some o) : Wd p (upd D q o) H' ∧ Same D (upd D q o) ∧ (upd D q o) q = some o :=
  ⟨(w.pure e).got (w.s.free h) (w.ne h) hq, same_new (w.s.free h), upd_same⟩
theorem yes_ite {σ : L2.St} {H : Hp} {A B : Hp → Prop} (h : A H) : tYes σ H (fun b H3 => if b = true then A H3 else B H3) := iteT (B := B H) h
theorem Wd.put {p q : Addr} {D H : Hp} {o o' : HO} (w : Wd p (upd D q o) H) (h0 : D q = none) (hp : q ≠ p) : Wd p D (upd H q o') := by
  obtain ⟨s, n, a, b, h1, h2, h3, h4⟩ := w
  rw [upd_ne hp.symm] at n
  refine ⟨fun c u e => ?_, n, a, b, h1, h2, h3, ?_⟩
  · have nc := ne_of_none e h0
    rw [upd_ne nc]
    exact s _ _ (by rw [upd_ne nc]; exact e)
  · rw [upd_ne hp.symm]
    exact h4
/-- what a helper that draws hands back -/
def Gets (p : Addr) (D : Hp) (R : V → Hp → Prop) (Q : VK) : Prop := ∀ v D' H', Same D D' → Wd p D' H' → R v D' → Q v H'
theorem ne_of_none' {H : Hp} {a b : Addr} {o : HO} (h : H b = some o) (n : H a = none) : a ≠ b := fun e => by
  rw [e, h] at n
  cases n
/-- what is known, but of one thing that changes -/
def del (D : Hp) (L : Addr) : Hp := fun a => if a = L then none else D a
theorem del_at {D : Hp} {L : Addr} : del D L L = none := if_pos rfl
theorem del_ne {D : Hp} {L a : Addr} (h : a ≠ L) : del D L a = D a := if_neg h
theorem same_del {D D' : Hp} {L : Addr} (n : D L = none) (e : Same D D') : Same D (del D' L) := fun b o h => by
  rw [del_ne (ne_of_none h n)]
  exact e _ _ h
theorem Wd.del {p L : Addr} {D H : Hp} (w : Wd p D H) : Wd p (del D L) H := by
  refine ⟨fun b o e => ?_, ?_, w.pot⟩
  · by_cases eb : b = L
    · rw [eb, del_at] at e
      cases e
    · rw [del_ne eb] at e
      exact w.s _ _ e
  · by_cases eb : p = L
    · rw [eb]
      exact del_at
    · rw [del_ne eb]
      exact w.n
theorem Wd.over {p L : Addr} {D H : Hp} {o : HO} (w : Wd p D H) (n : D L = none) (hp : L ≠ p) : Wd p D (upd H L o) := by
  obtain ⟨s, n2, a, b, h1, h2, h3, h4⟩ := w
  refine ⟨fun c u e => ?_, n2, a, b, h1, h2, h3, ?_⟩
  · rw [upd_ne (ne_of_none e n)]
    exact s _ _ e
  · rw [upd_ne hp.symm]
    exact h4
/-- all that stands, but the pot -/
theorem Wd.all {p : Addr} {D H : Hp} (w : Wd p D H) : Wd p (G0.del H p) H ∧ Same D (G0.del H p) :=
  ⟨⟨fun b o e => by
      by_cases eb : b = p
      · rw [eb, del_at] at e
        cases e
      · rw [del_ne eb] at e
        exact e, del_at, w.pot⟩, same_del w.n w.s⟩
section
variable {P : Program} {w : World} {K : PySem.W.Frag} {mg : Str → Option Value} {base : Heap}
theorem if_te {ta tb : TE} {σ : L2.St} {H : Hp} {Q : V → Hp → Prop} {b : Bool} (S : V → Hp → Prop) (h1 : b = true → ∀ R : V → Hp → Prop, (∀ v H', S v H' → R v H') → ta σ H R) (h2 : b = false → ∀ R : V → Hp → Prop, (∀ v H', S v H' → R v H') → tb σ H R) (k : ∀ v H', S v H' → Q v H') :
    if b = true then ta σ H Q else tb σ H Q := by
  cases b with
  | true => exact iteT (h1 rfl Q k)
  | false => exact iteF (h2 rfl Q k)
/-! _law_pot -/
def sp_pot (K : PySem.W.Frag) : Sp := fun vs H Q _ => ∃ (l : Addr) (ns : List Int) (k : Nat), vs = [.ref l, .int (k : Nat)] ∧ SqL K H l (ns.map V.int) ∧ ns.length ≤ 63 ∧ k ≤ 63 ∧ ∀ H' p D, Same H H' → Same H D → Wd p D H' → Q (.ref p) H'
theorem sc_pot : FnScope ["_law_script", "_law_k", "_law_cell"] ["_law_script", "_law_k"] (defScope s_pot) := ⟨rfl, rfl, rfl, by decide +kernel, rfl, by decide +kernel, by decide +kernel⟩
theorem ok_pot {f : Addr} {fd : FuncData} (F : Fun K "_law_pot" "_law_pot" s_pot f fd) (B : Blt mg) : FnOk P w K mg base CX0 1 f fd ["_law_script", "_law_k"] (sp_pot K) := by
  refine F.ok sc_pot (fun vs H Q E h => ?_) (fun cdv A outer s H vs Q E hr h => ?_)
  · obtain ⟨l, ns, k, rfl, _⟩ := h
    rfl
  · obtain ⟨l, ns, k, rfl, hs, hn, hk, q⟩ := h
    refine ⟨_, pss_cons (ps_set (i := 2) sc_pot.nd rfl (Or.inl rfl) (pe_op op_add (pe_op op_mul pe_int (pv 1)) pe_int))
      (pss_cons (ps_if (pt_cmpR op_lt (pv 1) (pe_callB call_len_seq (by rfl) B.len PySem.boot_len (pa_cons (pv 0) pa_nil)) (nomark _)) (pss_one (ps_set (i := 2) sc_pot.nd rfl (Or.inl rfl) (pe_callB call_abs (by rfl) B.abs boot_abs (pa_cons (pe_ix ix_list (pv 0) (pv 1) (fun _ _ => rfl)) pa_nil)))) pss_nil)
      (pss_one (ps_ret (pe_lst (pa_cons (pe_callB (call_max2 rfl) (by rfl) B.max boot_max (pa_cons pe_int (pa_cons (pe_op op_sub (pv 2) (pe_op op_pow pe_int pe_int)) pa_nil))) (pa_cons (pe_op op_add (pe_op op_modN (pe_callTy call_int1 (by rfl) B.int boot_tint (pa_cons (pe_op op_add (pe_op op_add (pe_op op_mul (pe_op op_modN (pe_callTy call_int1 (by rfl) B.int boot_tint (pa_cons (pv 2) pa_nil)) pe_int) pe_int) (pe_op op_mul pe_int (pv 1))) pe_int) pa_nil)) pe_int) pe_int) pa_nil)))))), ?_⟩
    refine ⟨_, rfl, _, _, rfl, rfl, .inl ⟨by decide, by decide⟩, _, _, rfl, rfl, ?_⟩
    dsimp only
    refine seq_join (fun σ H' => ∃ i : Int, σ = [some (.ref l), some (.int (k : Nat)), some (.int i)] ∧ 0 ≤ i ∧ H' = H) ?_ ?_
    · intro N hN
      refine ⟨_, rfl, _, rfl, l, _, rfl, .inl hs, _, _, rfl, rfl, _, rfl, ?_⟩
      refine ite2 (fun e => ?_) (fun e => ?_)
      · have hk2 : k < ns.length := by
          have := of_decide_eq_true e
          rw [List.length_map] at this
          omega
        refine ⟨_, rfl, _, rfl, l, _, _, .int ns[k], rfl, rfl, hs, atI_nat ?_, _, rfl, hN _ _ ⟨_, rfl, ?_, rfl⟩⟩
        · rw [List.getElem?_map, List.getElem?_eq_getElem hk2]
          rfl
        · split <;> omega
      · exact hN _ _ ⟨_, rfl, by omega, rfl⟩
    rintro σ H' ⟨i, rfl, hi, rfl⟩
    refine ⟨_, rfl, _, _, rfl, rfl, ⟨by decide, by decide, by decide⟩, _, _, rfl, rfl, _, _, rfl, ?_⟩
    refine ⟨_, rfl, .inl ⟨_, rfl, _, _, rfl, rfl, (show (2147483549 : Int) ≠ 0 by decide), _, _, rfl, rfl, .inr ⟨by decide, by decide⟩, _, rfl, _, _, rfl, rfl, .inl ⟨by decide, by decide⟩, _, _, rfl, rfl, _, _, rfl, rfl, ?_⟩⟩
    refine .inl ⟨_, rfl, _, _, rfl, rfl, (show (2147483563 : Int) ≠ 0 by decide), _, _, rfl, rfl, ?_⟩
    refine ⟨by show 2 ≤ sizeLine; decide, fun p hp => q _ p H' (same_new hp) (Same.refl _) ⟨same_new hp, hp, _, _, ?_, ?_, ?_, upd_same⟩⟩
    · split <;> omega
    · have := Int.fmod_nonneg_of_pos (i.fmod 2147483549 * 40014 + 7013 * (k : Int) + 31) (b := 2147483563) (by decide)
      omega
    · have := Int.fmod_lt_of_pos (i.fmod 2147483549 * 40014 + 7013 * (k : Int) + 31) (b := 2147483563) (by decide)
      omega
/-! _law_draw -/
def sp_draw : Sp := fun vs H Q _ => ∃ (p : Addr) (m : Int) (D : Hp), vs = [.ref p, .int m] ∧ Wd p D H ∧ 1 ≤ m ∧ m < 1073741824 ∧ ∀ (H' : Hp) (d : Int), Wd p D H' → 0 ≤ d → d < m → Q (.int d) H'
theorem sc_draw : FnScope ["_law_pot_here", "_law_size", "_law_digit"] ["_law_pot_here", "_law_size"] (defScope s_draw) := ⟨rfl, rfl, rfl, by decide +kernel, rfl, by decide +kernel, by decide +kernel⟩
theorem ok_draw {f : Addr} {fd : FuncData} (F : Fun K "_law_draw" "_law_draw" s_draw f fd) (B : Blt mg) : FnOk P w K mg base CX0 1 f fd ["_law_pot_here", "_law_size"] sp_draw := by
  refine F.ok sc_draw (fun vs H Q E h => ?_) (fun cdv A outer s H vs Q E hr h => ?_)
  · obtain ⟨p, m, D, rfl, _⟩ := h
    rfl
  · obtain ⟨p, m, D, rfl, ⟨sD, nD, a, b, ha, hb, hb2, hp⟩, m1, m2, q⟩ := h
    refine ⟨_, pss_cons (ps_if (pt_cmpR op_gt (pe_ix ix_list (pv 0) pe_int (fun _ _ => rfl)) pe_int (nomark _)) (pss_cons (ps_asg (pe_callB call_divmod (by rfl) B.divmod boot_divmod (pa_cons (pe_ix ix_list (pv 0) pe_int (fun _ _ => rfl)) (pa_cons (pv 1) pa_nil))) (pg_tup rfl (pgs_cons (pg_sub (pv 0) pe_int set_list) (pgs_cons (pg_name (i := 2) sc_draw.nd rfl (Or.inl rfl)) pgs_nil))))
        (pss_one (ps_ret (pv 2)))) pss_nil)
      (pss_cons (ps_asg (pe_op op_modN (pe_callTy call_int1 (by rfl) B.int boot_tint (pa_cons (pe_op op_add (pe_op op_mul (pe_ix ix_list (pv 0) pe_int (fun _ _ => rfl)) pe_int) pe_int) pa_nil)) pe_int) (pg_sub (pv 0) pe_int set_list))
      (pss_one (ps_ret (pe_op op_modN (pe_callTy call_int1 (by rfl) B.int boot_tint (pa_cons (pe_op op_fdivN (pe_op op_modN (pe_callTy call_int1 (by rfl) B.int boot_tint (pa_cons (pe_op op_mul (pe_ix ix_list (pv 0) pe_int (fun _ _ => rfl)) (pe_ix ix_list (pv 0) pe_int (fun _ _ => rfl))) pa_nil)) pe_int) pe_int) pa_nil)) (pv 1))))), ?_⟩
    have ix0 : atI [V.int a, V.int b] 0 = some (.int a) := rfl
    have ix1 : atI [V.int a, V.int b] 1 = some (.int b) := rfl
    refine ⟨_, rfl, p, _, _, _, rfl, rfl, SqL.mk hp, ix0, _, _, rfl, rfl, _, rfl, ?_⟩
    refine ite2 (fun e => ?_) (fun e => ?_)
    · have ha0 : 0 < a := of_decide_eq_true e
      refine ⟨_, rfl, p, _, _, _, rfl, rfl, SqL.mk hp, ix0, _, rfl, _, _, rfl, ⟨m1, m2⟩, fun t ht => ?_⟩
      have ntp : t ≠ p := (ne_of_none hp ht).symm
      refine ⟨t, _, rfl, SqT.mk upd_same, rfl, _, _, rfl, ?_⟩
      refine ⟨_, rfl, p, [V.int a, V.int b], 0, 0, rfl, rfl, ?_, rfl, ?_⟩
      · rw [upd_ne ntp.symm]
        exact hp
      refine ⟨_, _, rfl, rfl, ?_⟩
      refine ⟨_, rfl, ?_⟩
      refine q _ _ ⟨fun c o ec => ?_, nD, a / m, b, Int.ediv_nonneg ha (by omega), hb, hb2, upd_same⟩ (Int.emod_nonneg a (by omega)) (Int.emod_lt_of_pos a (by omega))
      rw [upd_ne (ne_of_none ec nD), upd_ne (ne_of_none (sD _ _ ec) ht)]
      exact sD _ _ ec
    · have hb31 : (-(2 ^ 64 : Int) < b ∧ b < 2 ^ 64) := ⟨by omega, by omega⟩
      have n87 : (2147483587 : Int) ≠ 0 := by decide
      refine ⟨_, rfl, p, _, _, _, rfl, rfl, SqL.mk hp, ix1, _, _, rfl, rfl, .inl hb31, _, _, rfl, rfl, .inl ⟨_, rfl, _, _, rfl, rfl, n87, ?_⟩⟩
      have c0 := Int.fmod_nonneg_of_pos (b * 39373 + 7013) (b := 2147483587) (by decide)
      have c1 := Int.fmod_lt_of_pos (b * 39373 + 7013) (b := 2147483587) (by decide)
      show gSub (tVar 0) (tC (.int 1)) rSetL (.int ((b * 39373 + 7013).fmod 2147483587)) _ _ _
      revert c0 c1
      generalize (b * 39373 + 7013).fmod 2147483587 = c
      intro c0 c1
      have hc31 : (-(2 ^ 64 : Int) < c ∧ c < 2 ^ 64) := ⟨by omega, by omega⟩
      refine ⟨_, rfl, p, _, 1, 1, rfl, rfl, hp, rfl, ?_⟩
      have hp2 : upd H p (.lst ([V.int a, V.int b].set 1 (.int c))) p = some (.lst [.int a, .int c]) := upd_same
      have iy1 : atI [V.int a, V.int c] 1 = some (.int c) := rfl
      refine ⟨_, rfl, p, _, _, _, rfl, rfl, SqL.mk hp2, iy1, _, rfl, p, _, _, _, rfl, rfl, SqL.mk hp2, iy1, _, _, rfl, rfl, .inl hc31, ?_⟩
      refine .inl ⟨_, rfl, _, _, rfl, rfl, (show (2147483563 : Int) ≠ 0 by decide), _, _, rfl, rfl, (show ((17 : Int) ≠ 0 ∧ (17 : Int).natAbs < 1073741824) by decide), .inl ⟨_, rfl, _, rfl, _, _, rfl, rfl, (show m ≠ 0 by omega), ?_⟩⟩
      refine q _ _ ⟨fun d o ed => ?_, nD, a, c, ha, c0, by omega, hp2⟩ (Int.fmod_nonneg_of_pos _ (by omega)) (Int.fmod_lt_of_pos _ (by omega))
      rw [upd_ne (ne_of_none ed nD)]
      exact sD _ _ ed
end
end G0

namespace G0
open PySem PySem.Spec PyProof.Rows L2
abbrev s_is_row : Stmt := top 10
abbrev s_is_counts : Stmt := top 11
abbrev s_fault : Stmt := top 12
abbrev s_first_fault : Stmt := top 13
/-- None, or a place -/
def optV : Option Nat → V
  | none => .non
  | some i => .int (i : Nat)
def AV.num : AV → Int
  | .int n => n
  | _ => 0
def AV.isCnt : AV → Bool
  | .int n => decide (0 ≤ n)
  | _ => false
def AV.isCounts : AV → Bool
  | .seq xs => decide (0 < xs.length) && xs.all AV.isCnt
  | _ => false
def AV.isRowB : AV → Bool
  | .seq xs => decide (0 < xs.length) && xs.all AV.isCnt && (ff (xs.map AV.num)).isNone
  | _ => false
theorem AVals.ints {K : PySem.W.Frag} {H : Hp} : ∀ {vs : List V} {xs : List AV}, AVals K H vs xs → xs.all AV.isCnt = true → vs = (xs.map AV.num).map V.int
  | _, _, .nil, _ => rfl
  | _, _, .cons (x := x) h hs, a => by
    rw [List.all_cons, Bool.and_eq_true] at a
    rw [List.map_cons, List.map_cons, ← AVals.ints hs a.2]
    cases h with
    | int n => rfl
    | other => cases a.1
    | seq => cases a.1
theorem avals_ints {K : PySem.W.Frag} {H : Hp} : ∀ ns : List Int, AVals K H (ns.map V.int) (ns.map AV.int)
  | [] => .nil
  | n :: ns => .cons (.int n) (avals_ints ns)
theorem av_ints {K : PySem.W.Frag} {H : Hp} {a : Addr} {ns : List Int} (h : Sq K H a (ns.map V.int)) : AVal K H (.ref a) (.seq (ns.map AV.int)) := .seq h (avals_ints ns)
theorem cnt_ints {ns : List Int} (h : ∀ n ∈ ns, 0 ≤ n) : (ns.map AV.int).all AV.isCnt = true := by
  rw [List.all_eq_true]
  intro x hx
  obtain ⟨n, hn, rfl⟩ := List.mem_map.mp hx
  exact decide_eq_true (h n hn)
theorem back_ints (ns : List Int) : ((ns.map AV.int).map AV.num) = ns := by
  rw [List.map_map]
  exact List.map_id' ns
theorem range_getD {α β : Type} (xs : List α) (d : α) (f : α → β) : (List.range' 0 xs.length).map (fun i => f (xs.getD i d)) = xs.map f := by
  have gen : ∀ (zs : List α) (k : Nat) (ys : List α), (List.range' k zs.length).map (fun i => f ((ys ++ zs).getD i d)) = zs.map f ∨ k ≠ ys.length := by
    intro zs
    induction zs with
    | nil => intro k ys; exact .inl rfl
    | cons z zs ih =>
      intro k ys
      by_cases h : k = ys.length
      · refine .inl ?_
        rcases ih (k + 1) (ys ++ [z]) with e | e
        · rw [List.append_assoc, List.singleton_append] at e
          rw [List.length_cons, List.range'_succ, List.map_cons, List.map_cons, e, h]
          simp
        · exact absurd (by simp [h]) e
      · exact .inr h
  rcases gen xs 0 [] with h | h
  · exact h
  · exact absurd rfl h
section
variable {P : Program} {w : World} {K : PySem.W.Frag} {mg : Str → Option Value} {base : Heap}
def sp_cntA (K : PySem.W.Frag) : Sp := fun vs H Q _ => ∃ (v : V) (x : AV), vs = [v] ∧ AVal K H v x ∧ Q (.bl x.isCnt) H
theorem sc_cnt : FnScope ["value"] ["value"] (defScope s_is_count) := ⟨rfl, rfl, rfl, by decide +kernel, rfl, by decide +kernel, by decide +kernel⟩
theorem ok_cntA {f f1 : Addr} {fd fd1 : FuncData} (F : Fun K "is_count" "is_count" s_is_count f fd) (Dint : Df K mg "is_integer" s_is_integer ["value"] f1 fd1) (Gint : FnOk P w K mg base CX0 1 f1 fd1 ["value"] (sp_intA K)) : FnOk P w K mg base CX0 2 f fd ["value"] (sp_cntA K) := by
  refine F.ok sc_cnt (fun vs H Q E h => ?_) (fun cdv A outer s H vs Q E hr h => ?_)
  · obtain ⟨v, x, rfl, _⟩ := h
    rfl
  · obtain ⟨v, x, rfl, hv, q⟩ := h
    refine ⟨_, pss_one (ps_ret (pe_and (pdf Dint Gint hr (pa_cons (pv 0) pa_nil)) (pe_one (pe_cmpR op_ge (pv 0) pe_int (nomark _))))), ?_⟩
    refine ⟨_, rfl, v, x, rfl, hv, _, rfl, ?_⟩
    cases hv with
    | int n => exact iteT ⟨_, rfl, _, _, rfl, rfl, q⟩
    | other => exact iteF q
    | seq => exact iteF q
def sp_countsA (K : PySem.W.Frag) : Sp := fun vs H Q _ => ∃ (v : V) (x : AV), vs = [v] ∧ AVal K H v x ∧ (∀ xs, x = .seq xs → xs.length < 1000000) ∧ ∀ H', Same H H' → Q (.bl x.isCounts) H'
theorem sc_counts : FnScope ["value", "number"] ["value"] (defScope s_is_counts) := ⟨rfl, rfl, rfl, by decide +kernel, rfl, by decide +kernel, by decide +kernel⟩
theorem ok_countsA {f f1 f2 : Addr} {fd fd1 fd2 : FuncData} (F : Fun K "is_counts" "is_counts" s_is_counts f fd) (B : Blt mg) (Dlst : Df K mg "is_list" s_is_list ["value"] f1 fd1) (Glst : FnOk P w K mg base CX0 1 f1 fd1 ["value"] (sp_listA K))
    (Dcnt : Df K mg "is_count" s_is_count ["value"] f2 fd2) (Gcnt : FnOk P w K mg base CX0 2 f2 fd2 ["value"] (sp_cntA K)) : FnOk P w K mg base CX0 3 f fd ["value"] (sp_countsA K) := by
  refine F.ok sc_counts (fun vs H Q E h => ?_) (fun cdv A outer s H vs Q E hr h => ?_)
  · obtain ⟨v, x, rfl, _⟩ := h
    rfl
  · obtain ⟨v, x, rfl, hv, ok, q⟩ := h
    have r1 : Room 1 _ := hr.mono (by decide)
    refine ⟨_, pss_one (ps_ret (pe_and (pdf Dlst Glst r1 (pa_cons (pv 0) pa_nil)) (pe_and (pe_cmpR op_gt (pe_callB call_len_seq (by rfl) B.len PySem.boot_len (pa_cons (pv 0) pa_nil)) pe_int (nomark _)) (pe_one (pe_callB (cr_all rfl) (by rfl) B.all boot_all (pa_cons (pe_lc (own := [("number", 1)]) (g := gName 1) (tt := tYes) rfl sc_counts.nd (pi_any (pv 0)) (blkOk_by (N := ["value", "number"]) (sc := defScope s_is_counts) (by decide +kernel)) (fun _ _ _ _ _ => pg_name (i := 1) sc_counts.nd rfl (Or.inl rfl)) (fun _ _ _ _ _ => pts_nil) (fun _ _ _ _ _ => (pdf Dcnt Gcnt hr (pa_cons (pv 1) pa_nil)))) pa_nil)))))), ?_⟩
    refine ⟨_, rfl, v, x, rfl, hv, fun H1 s1 => ⟨_, rfl, ?_⟩⟩
    cases hv with
    | int n => exact iteF (q _ s1)
    | other => exact iteF (q _ s1)
    | @seq a vs xs hs hq =>
      refine iteT ?_
      have lv := AVals.len hq
      have hl := ok _ rfl
      have hs1 := hs.same s1
      refine ⟨_, rfl, a, vs, rfl, hs1, _, _, rfl, rfl, _, rfl, ?_⟩
      by_cases h0 : 0 < xs.length
      · rw [decide_eq_true (show (0 : Int) < ((vs.length : Nat) : Int) by omega)]
        refine iteT ?_
        let FX : Nat → V := fun i => V.bl (xs.getD i .other).isCnt
        have turn : ∀ i u, vs[i]? = some u → AVal K H u (xs.getD i .other) := by
          intro i u hi
          obtain ⟨y, hy, av⟩ := AVals.at hq hi
          rw [List.getD_eq_getElem?_getD, hy]
          exact av
        have fin : ∀ H3 : Hp, Same H1 H3 → ∀ D : Addr, H3 D = some (.lst ((List.range' 0 vs.length).map FX)) → ∃ (a : Addr) (bs : List Bool), [V.ref D] = [V.ref a] ∧ SqL K H3 a (bs.map V.bl) ∧ Q (.bl (bs.all id)) H3 := by
          intro H3 s3 D hD
          rw [lv, range_getD xs .other fun x => V.bl x.isCnt] at hD
          refine ⟨D, xs.map AV.isCnt, rfl, SqL.mk ?_, ?_⟩
          · rw [hD, List.map_map]
            rfl
          · have e : (xs.map AV.isCnt).all id = AV.isCounts (.seq xs) := by
              show _ = (decide (0 < xs.length) && xs.all AV.isCnt)
              rw [decide_eq_true h0, Bool.true_and, List.all_map]
              rfl
            rw [e]
            exact q _ (s1.trans s3)
        rcases hs1 with hs1 | hs1
        · refine .inl ⟨_, rfl, a, rfl, ⟨_, hs1⟩, fun D hD => lcI FX hs1 (by rw [lv]; exact Nat.lt_of_lt_of_le hl (by decide)) hD (fun i u hu H3 s3 G N gk => ⟨rfl, yes_ite ?_⟩) fun H3 s3 h3 => fin H3 s3 D h3⟩
          exact ⟨_, rfl, u, _, rfl, (turn i u hu).same (s1.trans s3), gk _ (Same.refl _)⟩
        · refine .inr ⟨_, rfl, a, rfl, ⟨_, hs1⟩, fun D hD => lcIT FX hs1 (by rw [lv]; exact Nat.lt_of_lt_of_le hl (by decide)) hD (fun i u hu H3 s3 G N gk => ⟨rfl, yes_ite ?_⟩) fun H3 s3 h3 => fin H3 s3 D h3⟩
          exact ⟨_, rfl, u, _, rfl, (turn i u hu).same (s1.trans s3), gk _ (Same.refl _)⟩
      · rw [decide_eq_false (show ¬ (0 : Int) < ((vs.length : Nat) : Int) by omega)]
        refine iteF ?_
        have e : AV.isCounts (.seq xs) = false := by
          show (decide (0 < xs.length) && xs.all AV.isCnt) = false
          rw [decide_eq_false h0]
          rfl
        rw [← e]
        exact q _ s1
theorem and_v {ta tb : TE} {σ : L2.St} {H : Hp} {Q : VK} (k1 k2 : Bool) (ha : ∀ R : VK, R (.bl k1) H → ta σ H R) (hb : k1 = true → ∀ R : VK, R (.bl k2) H → tb σ H R) (q : Q (.bl (k1 && k2)) H) : tAndV ta tb σ H Q := by
  refine ha _ ⟨_, rfl, ?_⟩
  cases k1 with
  | false => exact iteF q
  | true => exact iteT (hb rfl _ q)
/-! first_fault -/
def sp_first (K : PySem.W.Frag) : Sp := fun vs H Q _ => ∃ (a : Addr) (ns : List Int), vs = [.ref a] ∧ Sq K H a (ns.map V.int) ∧ ∀ H', Same H H' → Q (optV (ff ns)) H'
theorem sc_first : FnScope ["counts", "ahead", "total", "place", "number", "rises"] ["counts"] (defScope s_first_fault) := ⟨rfl, rfl, rfl, by decide +kernel, rfl, by decide +kernel, by decide +kernel⟩
theorem ok_first {f : Addr} {fd : FuncData} (F : Fun K "first_fault" "first_fault" s_first_fault f fd) (B : Blt mg) {t1 t2 : Tok} (m9 : mg "MOST_PLACES" = some (.int 9 t1)) (m24 : mg "MOST_SUM" = some (.int 24 t2)) : FnOk P w K mg base CX0 1 f fd ["counts"] (sp_first K) := by
  refine F.ok sc_first (fun vs H Q E h => ?_) (fun cdv A outer s H vs Q E hr h => ?_)
  · obtain ⟨a, ns, rfl, _⟩ := h
    rfl
  · obtain ⟨a, ns, rfl, hs, q⟩ := h
    obtain ⟨kind, hk⟩ := hs.kind
    refine ⟨_, pss_cons (ps_asg (pe_tup (pa_cons pe_int (pa_cons pe_int pa_nil))) (pg_tup rfl (pgs_cons (pg_name (i := 1) sc_first.nd rfl (.inl rfl)) (pgs_cons (pg_name (i := 2) sc_first.nd rfl (.inl rfl)) pgs_nil))))
      (pss_cons (ps_for PassesOwn.never rfl (pi_E kind (by rfl) B.enumerate (pa_cons (pv 0) pa_nil)) (pg_tup rfl (pgs_cons (pg_name (i := 3) sc_first.nd rfl (Or.inl rfl)) (pgs_cons (pg_name (i := 4) sc_first.nd rfl (Or.inl rfl)) pgs_nil))) (pss_cons (ps_aug (i := 2) sc_first.nd rfl (Or.inl rfl) (pv 4) ip_add)
        (pss_cons (ps_set (i := 5) sc_first.nd rfl (Or.inl rfl) (pe_and (pe_cmpR op_eq (pv 1) (pv 3) (nomark _)) (pe_one (pe_cmpR op_eq (pv 4) (pe_op op_add (pv 3) pe_int) (nomark _)))))
        (pss_cons (ps_if (PW.pt (pw_or (pt_cmpR op_eq (pv 3) (pe_glob (v := V.int 9) rfl m9 ⟨_, rfl⟩) (nomark _)) (pw_or (pt_cmpR op_gt (pv 2) (pe_glob (v := V.int 24) rfl m24 ⟨_, rfl⟩) (nomark _)) (pw_or1 (pt_not (PW.pt (pw_or (pt_val (pv 5)) (pw_or1 (pt_chain op_lt op_le pe_int (pv 4) (pv 1)))))))))) (pss_one (ps_ret (pv 3))) pss_nil)
        (pss_one (ps_set (i := 1) sc_first.nd rfl (Or.inl rfl) (pv 4)))))))
      (pss_one (ps_ret pe_non))), ?_⟩
    refine ⟨by show 2 ≤ sizeLine; decide, fun t0 ht0 => ?_⟩
    have s0 := same_new (o := .tup [.int 0, .int 0]) ht0
    refine ⟨t0, _, rfl, SqT.mk upd_same, rfl, _, _, rfl, _, _, rfl, rfl, ?_⟩
    refine ⟨_, rfl, a, ns.map V.int, rfl, hk.same s0, for_it (walk_E (b := kind) (xs := ns.map V.int)) (fun i σ H2 => ∃ y3 y4 y5, σ = [some (.ref a), some (.int (lastI 0 (ns.take i))), some (.int (ns.take i).sum), y3, y4, y5] ∧ Same H H2 ∧ ff (ns.take i) = none) ⟨none, none, none, rfl, s0, rfl⟩ ?_ ?_ ?_⟩
    · rintro i σ H2 _ ⟨y3, y4, y5, rfl, s2, _⟩
      exact hk.same s2
    · rintro i y σ H2 H3 hi ⟨y3, y4, y5, rfl, s2, h0⟩ ⟨Tp, z1, z2, rfl, nT, rfl, ez1, ez2⟩
      cases ez1
      have hl : i < ns.length := by rw [List.length_map] at hi; exact hi
      have en : ns[i]? = some ns[i] := List.getElem?_eq_getElem hl
      have ez3 : (ns.map V.int)[i]? = some z2 := ez2
      rw [List.getElem?_map, en] at ez3
      cases ez3
      clear ez2
      revert en
      generalize ns[i] = n
      intro en
      have sT : Same H2 (upd H2 Tp (.tup [.int (i : Nat), .int n])) := same_new nT
      refine ⟨Tp, _, rfl, SqT.mk upd_same, rfl, _, _, rfl, _, _, rfl, rfl, ?_⟩
      have sA := s2.trans sT
      have fe := ff_take en h0
      have se : (ns.take (i + 1)).sum = (ns.take i).sum + n := by rw [List.take_add_one, en]; simp
      have le : lastI 0 (ns.take (i + 1)) = n := by rw [List.take_add_one, en]; exact lastI_snoc ..
      revert h0 fe se
      generalize lastI 0 (ns.take i) = a'
      generalize (ns.take i).sum = t'
      intro h0 fe se
      have bad : ∀ H', Same H H' → ¬ okStep i a' t' n → Q (.int (i : Nat)) H' := fun H' s' no => by
        rw [if_neg no] at fe
        have := q _ s'
        rw [ff_stop fe] at this
        exact this
      refine ⟨_, rfl, _, rfl, _, _, rfl, rfl, ?_⟩
      dsimp only
      show tAndV _ _ _ _ _
      refine and_v (decide (V.int a' = V.int (i : Nat))) (decide (V.int n = V.int ((i : Nat) + 1))) (fun R r => ⟨_, rfl, _, rfl, rfl, r⟩) (fun _ R r => ⟨_, rfl, _, rfl, _, _, rfl, rfl, rfl, r⟩) ?_
      have er : (decide (V.int a' = V.int (i : Nat)) && decide (V.int n = V.int ((i : Nat) + 1))) = decide (a' = (i : Int) ∧ n = (i : Int) + 1) := by
        simp
      rw [er]
      refine ⟨_, rfl, rfl, _, rfl, ?_⟩
      by_cases p9 : i = 9
      · rw [decide_eq_true (show V.int (i : Nat) = V.int 9 by rw [p9]; rfl)]
        exact iteT ⟨_, rfl, bad _ sA fun o => o.1 p9⟩
      · rw [decide_eq_false (show ¬ V.int (i : Nat) = V.int 9 from fun z => p9 (by have := V.int.inj z; omega))]
        refine iteF ⟨_, rfl, _, _, rfl, rfl, _, rfl, ?_⟩
        by_cases p24 : 24 < t' + n
        · rw [decide_eq_true p24]
          exact iteT ⟨_, rfl, bad _ sA fun o => by have := o.2.1; omega⟩
        · rw [decide_eq_false p24]
          refine iteF ⟨_, rfl, _, rfl, ?_⟩
          have good : okStep i a' t' n → ff (ns.take (i + 1)) = none := fun o => by rw [fe, if_pos o]
          by_cases pr : a' = (i : Int) ∧ n = (i : Int) + 1
          · rw [decide_eq_true pr]
            refine iteT (iteF ?_)
            exact ⟨_, rfl, _, _, _, by rw [le, se]; rfl, sA, good ⟨p9, by omega, .inl pr⟩⟩
          · rw [decide_eq_false pr]
            refine iteF ?_
            refine ⟨_, rfl, _, _, rfl, rfl, _, rfl, ?_⟩
            by_cases n0 : 0 < n
            · rw [decide_eq_true n0]
              refine iteT ⟨_, rfl, _, _, rfl, rfl, _, rfl, ?_⟩
              by_cases na : n ≤ a'
              · rw [decide_eq_true na]
                refine iteF ?_
                exact ⟨_, rfl, _, _, _, by rw [le, se]; rfl, sA, good ⟨p9, by omega, .inr ⟨n0, na⟩⟩⟩
              · rw [decide_eq_false na]
                refine iteT ?_
                exact ⟨_, rfl, bad _ sA fun o => o.2.2.elim pr fun z => na z.2⟩
            · rw [decide_eq_false n0]
              refine iteF ⟨_, rfl, iteT ?_⟩
              exact ⟨_, rfl, bad _ sA fun o => o.2.2.elim pr fun z => n0 z.1⟩
    · rintro σ H2 ⟨y3, y4, y5, rfl, s2, h0⟩
      rw [List.length_map, List.take_length] at h0
      have := q _ s2
      rw [h0] at this
      exact this
end
end G0

namespace G0
open PySem PySem.Spec PyProof.Rows L2
section
variable {P : Program} {w : World} {K : PySem.W.Frag} {mg : Str → Option Value} {base : Heap}
def sp_rowA (K : PySem.W.Frag) : Sp := fun vs H Q _ => ∃ (v : V) (x : AV), vs = [v] ∧ AVal K H v x ∧ (∀ xs, x = .seq xs → xs.length < 1000000) ∧ ∀ H', Same H H' → Q (.bl x.isRowB) H'
theorem optV_non (o : Option Nat) : decide (optV o = .non) = o.isNone := by
  cases o <;> simp [optV]
theorem sc_isrow : FnScope ["value"] ["value"] (defScope s_is_row) := ⟨rfl, rfl, rfl, by decide +kernel, rfl, by decide +kernel, by decide +kernel⟩
theorem ok_rowA {f f1 f2 : Addr} {fd fd1 fd2 : FuncData} (F : Fun K "is_row" "is_row" s_is_row f fd) (Dcs : Df K mg "is_counts" s_is_counts ["value"] f1 fd1) (Gcs : FnOk P w K mg base CX0 3 f1 fd1 ["value"] (sp_countsA K))
    (Dff : Df K mg "first_fault" s_first_fault ["counts"] f2 fd2) (Gff : FnOk P w K mg base CX0 1 f2 fd2 ["counts"] (sp_first K)) : FnOk P w K mg base CX0 4 f fd ["value"] (sp_rowA K) := by
  refine F.ok sc_isrow (fun vs H Q E h => ?_) (fun cdv A outer s H vs Q E hr h => ?_)
  · obtain ⟨v, x, rfl, _⟩ := h
    rfl
  · obtain ⟨v, x, rfl, hv, ok, q⟩ := h
    have r1 : Room 1 _ := hr.mono (by decide)
    refine ⟨_, pss_one (ps_ret (pe_and (pdf Dcs Gcs hr (pa_cons (pv 0) pa_nil)) (pe_one (pe_cmpR op_isN (pdf Dff Gff r1 (pa_cons (pv 0) pa_nil)) pe_non (nomark _))))), ?_⟩
    refine ⟨_, rfl, v, x, rfl, hv, ok, fun H1 s1 => ⟨_, rfl, ?_⟩⟩
    cases hv with
    | int n => exact iteF (q _ s1)
    | other => exact iteF (q _ s1)
    | @seq a vs xs hs hq =>
      cases hc : AV.isCounts (.seq xs) with
      | false =>
        refine iteF ?_
        have e : AV.isRowB (.seq xs) = false := by
          show (AV.isCounts (.seq xs) && _) = false
          rw [hc]
          rfl
        rw [← e]
        exact q _ s1
      | true =>
        have hc' : (decide (0 < xs.length) && xs.all AV.isCnt) = true := hc
        rw [Bool.and_eq_true] at hc'
        have ev := AVals.ints hq hc'.2
        have hs1 := hs.same s1
        rw [ev] at hs1
        refine iteT ⟨_, rfl, a, _, rfl, hs1, fun H2 s2 => ⟨rfl, ?_⟩⟩
        rw [optV_non]
        have e : AV.isRowB (.seq xs) = (ff (xs.map AV.num)).isNone := by
          show (AV.isCounts (.seq xs) && _) = _
          rw [hc]
          rfl
        rw [← e]
        exact q _ (s1.trans s2)
def sp_fault (K : PySem.W.Frag) : Sp := fun vs H Q _ => ∃ (a : Addr) (ns : List Int), vs = [.ref a] ∧ Sq K H a (ns.map V.int) ∧ ns ≠ [] ∧ (∀ n ∈ ns, 0 ≤ n) ∧ ns.length < 1000000 ∧ ∀ H', Same H H' → Q (optV (ff ns)) H'
theorem sc_fault : FnScope ["value"] ["value"] (defScope s_fault) := ⟨rfl, rfl, rfl, by decide +kernel, rfl, by decide +kernel, by decide +kernel⟩
theorem ok_fault {f f1 f2 : Addr} {fd fd1 fd2 : FuncData} (F : Fun K "fault" "fault" s_fault f fd) (Dcs : Df K mg "is_counts" s_is_counts ["value"] f1 fd1) (Gcs : FnOk P w K mg base CX0 3 f1 fd1 ["value"] (sp_countsA K))
    (Dff : Df K mg "first_fault" s_first_fault ["counts"] f2 fd2) (Gff : FnOk P w K mg base CX0 1 f2 fd2 ["counts"] (sp_first K)) : FnOk P w K mg base CX0 4 f fd ["value"] (sp_fault K) := by
  refine F.ok sc_fault (fun vs H Q E h => ?_) (fun cdv A outer s H vs Q E hr h => ?_)
  · obtain ⟨a, ns, rfl, _⟩ := h
    rfl
  · obtain ⟨a, ns, rfl, hs, ne, nn, hl, q⟩ := h
    have r1 : Room 1 _ := hr.mono (by decide)
    refine ⟨_, pss_cons (ps_if (pt_not (pt_val (pdf Dcs Gcs hr (pa_cons (pv 0) pa_nil)))) (pss_one ps_never) pss_nil)
      (pss_one (ps_ret (pdf Dff Gff r1 (pa_cons (pv 0) pa_nil)))), ?_⟩
    refine ⟨_, rfl, _, _, rfl, av_ints hs, fun xs e => ?_, fun H1 s1 => ⟨_, rfl, ?_⟩⟩
    · cases e
      rw [List.length_map]
      exact hl
    · have e : AV.isCounts (.seq (ns.map AV.int)) = true := by
        show (decide (0 < (ns.map AV.int).length) && _) = true
        rw [cnt_ints nn, List.length_map, decide_eq_true (List.length_pos_iff.mpr ne)]
        rfl
      rw [e]
      refine iteF ⟨_, rfl, a, ns, rfl, hs.same s1, fun H2 s2 => q _ (s1.trans s2)⟩
end
end G0

namespace G0
open PySem PySem.Spec PyProof.Rows L2
abbrev s_lrow : Stmt := top 18
abbrev s_passed : Stmt := top 19
section
variable {X : Cx}
/-! list(range(a, b)) -/
theorem cr_range2 : CallR X (.type "range") (fun vs H Q => ∃ i j, vs = [V.int i, V.int j] ∧ ∀ p, H p = none → Q (.ref p) (upd H p (.rng i j))) := by
  intro pins s σ H vs us Q J r h
  obtain ⟨i, j, rfl, q⟩ := h
  obtain ⟨u, v, rfl, ⟨t, rfl⟩, ⟨t2, rfl⟩⟩ := vals2 r
  refine call_range_2 ⟨.ref s.heap.objs.size, upd H s.heap.objs.size (.rng i j), J.laid (t' := s.toks + 1) (fun b o e => Heap.get?_push_of_some _ e) (Nat.le_refl _) ?_, rfl, q _ (J.hok.fresh (Nat.le_refl _))⟩
  exact ⟨t, t2, s.toks, Heap.get?_push_size _ rfl⟩
theorem cr_range1 : CallR X (.type "range") (fun vs H Q => ∃ j, vs = [V.int j] ∧ ∀ p, H p = none → Q (.ref p) (upd H p (.rng 0 j))) := by
  intro pins s σ H vs us Q J r h
  obtain ⟨j, rfl, q⟩ := h
  obtain ⟨u, rfl, t, rfl⟩ := vals1 r
  refine call_range_1 ⟨.ref s.heap.objs.size, upd H s.heap.objs.size (.rng 0 j), J.laid (t' := s.toks + 1 + 1) (fun b o e => Heap.get?_push_of_some _ e) (Nat.le_refl _) ?_, rfl, q _ (J.hok.fresh (Nat.le_refl _))⟩
  exact ⟨s.toks, t, s.toks + 1, Heap.get?_push_size _ rfl⟩
theorem vals_from : ∀ (n : Nat) {acc : List Value} (k : Nat), acc.length = n → (∀ j v, acc[j]? = some v → ∃ t, v = Value.int ((k + j : Nat) : Int) t) → Vals ((List.range' k n).map fun i => V.int (i : Nat)) acc
  | 0, acc, k, h, _ => by
    rw [List.length_eq_zero_iff.mp h]
    exact .nil
  | n + 1, [], k, h, _ => by cases h
  | n + 1, v :: acc, k, h, all => by
    obtain ⟨t, e⟩ := all 0 v rfl
    rw [List.range'_succ]
    refine .cons ⟨t, e⟩ (vals_from n (k + 1) (Nat.succ.inj h) fun j u hj => ?_)
    obtain ⟨t2, e2⟩ := all (j + 1) u hj
    exact ⟨t2, by rw [e2]; congr 1; omega⟩
theorem cr_listRng2 (calm : X.calm = true) : CallR X (.type "list") (fun vs H Q => ∃ (r : Addr) (k n : Nat) (lo hi : Int), vs = [V.ref r] ∧ H r = some (.rng lo hi) ∧ lo = (k : Nat) ∧ hi = ((k + n : Nat) : Int) ∧ n ≤ 1000 ∧ k ≤ 1000 ∧ ∀ l, H l = none → Q (.ref l) (upd H l (.lst ((List.range' k n).map fun i => V.int (i : Nat))))) := by
  intro pins s σ H vs us Q J rv h
  obtain ⟨r, k, n, lo, hi, rfl, hr, rfl, rfl, hn, hk, q⟩ := h
  obtain ⟨u, rfl, ru⟩ := vals1 rv
  cases ru
  obtain ⟨t, u, v, look⟩ := (show ∃ t u v, s.heap.get? r = some { cls := .type "range", data := .fields #[.int (k : Nat) t, .int ((k + n : Nat) : Int) u, .int 1 v] } from J.hok r _ hr)
  refine call_list_range (n := n) (J.ok.hd calm) look ?_ ?_ (by omega) fun h2 tk acc c2 kept hS items => ?_
  · exact small_one (by omega) (by omega) (by omega) (by omega)
  · rw [rangeSize_nat]
    omega
  · obtain ⟨size, each⟩ := items
    have fr : H s.heap.objs.size = none := J.hok.fresh (Nat.le_refl _)
    refine ⟨.ref s.heap.objs.size, upd H s.heap.objs.size (.lst ((List.range' k n).map fun i => V.int (i : Nat))), J.laid (t' := tk) kept (Nat.le_refl _) ⟨?_, acc.toList, c2, ?_, hS⟩, rfl, q _ fr⟩
    · rw [List.length_map, List.length_range']
      exact Nat.le_trans hn (by decide)
    · refine vals_from n k (by simpa using size) fun j v hj => ?_
      obtain ⟨t, e⟩ := each j v (by simpa using hj)
      exact ⟨t, by rw [e]; congr 1; omega⟩
end
theorem range_ints (k n : Nat) : ((List.range' k n).map fun i => V.int (i : Nat)) = ((List.range' k n).map fun i => ((i : Nat) : Int)).map V.int := by rw [List.map_map]; rfl
theorem at_last {ns : List Int} {n : Int} : atI ((ns ++ [n]).map V.int) (-1) = some (.int n) := by
  unfold atI ixN
  rw [if_neg (by decide), List.length_map, List.length_append, if_pos (by simp; omega)]
  show ((ns ++ [n]).map V.int)[_]? = _
  rw [show ((-1 : Int) + ((ns.length + [n].length : Nat) : Int)).toNat = ns.length by simp; omega]
  simp
/-- what _law_row hands back -/
def RowAt (v : V) (D : Hp) : Prop := ∃ L ns, v = .ref L ∧ D L = some (.lst (ns.map V.int)) ∧ ns ≠ [] ∧ ff ns = none
section
variable {P : Program} {w : World} {K : PySem.W.Frag} {mg : Str → Option Value} {base : Heap}
/-! _law_passed -/
def sp_passed (K : PySem.W.Frag) : Sp := fun vs H Q _ => ∃ (p l : Addr) (D : Hp) (us : List V), vs = [.ref p, .ref l] ∧ Wd p D H ∧ SqL K D l us ∧ Gets p D (fun v D' => ∃ q, v = .ref q ∧ Sq K D' q us ∧ D q = none) Q
theorem sc_passed : FnScope ["_law_pot_here", "_law_numbers"] ["_law_pot_here", "_law_numbers"] (defScope s_passed) := ⟨rfl, rfl, rfl, by decide +kernel, rfl, by decide +kernel, by decide +kernel⟩
theorem ok_passed {f f1 : Addr} {fd fd1 : FuncData} (F : Fun K "_law_passed" "_law_passed" s_passed f fd) (B : Blt mg) (Ddraw : Df K mg "_law_draw" s_draw ["_law_pot_here", "_law_size"] f1 fd1) (Gdraw : FnOk P w K mg base CX0 1 f1 fd1 ["_law_pot_here", "_law_size"] sp_draw) :
    FnOk P w K mg base CX0 2 f fd ["_law_pot_here", "_law_numbers"] (sp_passed K) := by
  refine F.ok sc_passed (fun vs H Q E h => ?_) (fun cdv A outer s H vs Q E hr h => ?_)
  · obtain ⟨p, l, D, us, rfl, _⟩ := h
    rfl
  · obtain ⟨p, l, D, us, rfl, wd, hs, q⟩ := h
    refine ⟨_, pss_one (ps_ret (pe_ifExp (pt_cmpR op_eq (pdf Ddraw Gdraw hr (pa_cons (pv 0) (pa_cons pe_int pa_nil))) pe_int (nomark _)) (pe_callTy call_tuple_of (by rfl) B.tuple boot_ttuple (pa_cons (pv 1) pa_nil)) (pe_callTy call_list_of (by rfl) B.list boot_tlist (pa_cons (pv 1) pa_nil)))), ?_⟩
    refine ⟨_, rfl, p, 2, D, rfl, wd, by decide, by decide, fun H1 d w1 d0 d1 => ⟨rfl, _, rfl, ?_⟩⟩
    refine ite2 (fun e => ?_) (fun e => ?_)
    · refine ⟨_, rfl, l, us, rfl, .inl ⟨w1.s.seq hs, fun t ht => ?_⟩⟩
      obtain ⟨w3, s3, h3⟩ := w1.new (same_new ht) ht upd_same
      exact q _ _ _ s3 w3 ⟨t, rfl, .inr (SqT.mk h3), w1.s.free ht⟩
    · refine ⟨_, rfl, l, us, rfl, .inl (w1.s.seq hs), fun t ht => ?_⟩
      obtain ⟨w3, s3, h3⟩ := w1.new (same_new ht) ht upd_same
      exact q _ _ _ s3 w3 ⟨t, rfl, .inl (SqL.mk h3), w1.s.free ht⟩
/-! _law_row -/
def sp_lrow : Sp := fun vs H Q _ => ∃ (p : Addr) (D : Hp), vs = [.ref p, .int 24] ∧ Wd p D H ∧ Gets p D RowAt Q
theorem sc_lrow : FnScope ["_law_pot_here", "_law_most", "_law_rise", "_law_turn", "_law_found", "_law_room"] ["_law_pot_here", "_law_most"] (defScope s_lrow) := ⟨rfl, rfl, rfl, by decide +kernel, rfl, by decide +kernel, by decide +kernel⟩
theorem ok_lrow {f f1 : Addr} {fd fd1 : FuncData} (F : Fun K "_law_row" "_law_row" s_lrow f fd) (B : Blt mg) (Ddraw : Df K mg "_law_draw" s_draw ["_law_pot_here", "_law_size"] f1 fd1) (Gdraw : FnOk P w K mg base CX0 1 f1 fd1 ["_law_pot_here", "_law_size"] sp_draw) :
    FnOk P w K mg base CX0 2 f fd ["_law_pot_here", "_law_most"] sp_lrow := by
  refine F.ok sc_lrow (fun vs H Q E h => ?_) (fun cdv A outer s H vs Q E hr h => ?_)
  · obtain ⟨p, D, rfl, _⟩ := h
    rfl
  · obtain ⟨p, D, rfl, wd, q⟩ := h
    refine ⟨_, pss_cons (ps_set (i := 2) sc_lrow.nd rfl (Or.inl rfl) (pe_op op_add pe_int (pdf Ddraw Gdraw hr (pa_cons (pv 0) (pa_cons pe_int pa_nil)))))
      (pss_cons (ps_for PassesOwn.never rfl (pi_range1 (by rfl) B.range (pa_cons pe_int pa_nil)) (pg_name (i := 3) sc_lrow.nd rfl (Or.inl rfl)) (pss_one (ps_if (pt_cmpR op_gt (pe_op op_fdivN (pe_op op_mul (pv 2) (pe_op op_add (pv 2) pe_int)) pe_int) (pv 1) (nomark _)) (pss_one (ps_set (i := 2) sc_lrow.nd rfl (Or.inl rfl) (pe_op op_sub (pv 2) pe_int))) pss_nil)))
      (pss_cons (ps_set (i := 4) sc_lrow.nd rfl (Or.inl rfl) (pe_callTy (cr_listRng2 rfl) (by rfl) B.list boot_tlist (pa_cons (pe_callTy cr_range2 (by rfl) B.range boot_trange (pa_cons pe_int (pa_cons (pe_op op_add (pv 2) pe_int) pa_nil))) pa_nil)))
      (pss_cons (ps_for PassesOwn.never rfl (pi_range1 (by rfl) B.range (pa_cons (pdf Ddraw Gdraw hr (pa_cons (pv 0) (pa_cons pe_int pa_nil))) pa_nil)) (pg_name (i := 3) sc_lrow.nd rfl (Or.inl rfl)) (pss_cons (ps_set (i := 5) sc_lrow.nd rfl (Or.inl rfl) (pe_callB (call_min2 rfl) (by rfl) B.min boot_min (pa_cons (pe_ix ix_list (pv 4) (pe_un un_neg pe_int) (fun _ _ => rfl)) (pa_cons (pe_op op_sub (pv 1) (pe_callB (cr_sum rfl) (by rfl) B.sum boot_sum (pa_cons (pv 4) pa_nil))) pa_nil))))
        (pss_cons (ps_if (PW.pt (pw_or (pt_cmpR op_lt (pv 5) pe_int (nomark _)) (pw_or1 (pt_cmpR op_eq (pe_callB call_len_seq (by rfl) B.len PySem.boot_len (pa_cons (pv 4) pa_nil)) pe_int (nomark _))))) (pss_one (ps_ret (pv 4))) pss_nil)
        (pss_one (ps_expr (pe_bm PySem.F.plainAttrs_list PySem.F.slot_list_append PySem.F.type_list_append mt_append (pv 4) (pa_cons (pe_op op_add pe_int (pdf Ddraw Gdraw hr (pa_cons (pv 0) (pa_cons (pv 5) pa_nil)))) pa_nil)))))))
      (pss_one (ps_ret (pv 4)))))), ?_⟩
    refine ⟨_, rfl, p, 6, D, rfl, wd, by decide, by decide, fun H1 d w1 d0 d1 => ⟨_, _, rfl, rfl, ?_⟩⟩
    have hr6 : ∃ k : Nat, 1 + d = (k : Int) ∧ 1 ≤ k ∧ k ≤ 6 := ⟨(1 + d).toNat, by omega, by omega, by omega⟩
    obtain ⟨k, ek, k1, k6⟩ := hr6
    have small : ¬ (24 : Int) < ((k : Int) * ((k : Int) + 1)).fdiv 2 := by
      have : k = 1 ∨ k = 2 ∨ k = 3 ∨ k = 4 ∨ k = 5 ∨ k = 6 := by omega
      rcases this with rfl | rfl | rfl | rfl | rfl | rfl <;> decide
    have ff0 : ff ((List.range' 1 k).map fun i => ((i : Nat) : Int)) = none := by
      have : k = 1 ∨ k = 2 ∨ k = 3 ∨ k = 4 ∨ k = 5 ∨ k = 6 := by omega
      rcases this with rfl | rfl | rfl | rfl | rfl | rfl <;> decide
    dsimp only
    rw [ek]
    refine ⟨6, rfl, by decide, by decide, for_range (n := 6) (fun i σ H2 => ∃ y3, σ = [some (.ref p), some (.int 24), some (.int (k : Nat)), y3, none, none] ∧ H2 = H1) ⟨none, rfl, rfl⟩ ?_ ?_⟩
    · rintro i σ H2 hi ⟨y3, rfl, rfl⟩
      refine ⟨_, rfl, _, rfl, _, _, rfl, rfl, _, _, rfl, rfl, .inl ⟨by omega, by omega⟩, _, _, rfl, rfl, (show ((2 : Int) ≠ 0 ∧ (2 : Int).natAbs < 1073741824) by decide), _, rfl, _, _, rfl, rfl, _, rfl, ?_⟩
      rw [decide_eq_false small]
      exact iteF ⟨_, rfl, rfl⟩
    · rintro σ H2 ⟨y3, rfl, rfl⟩
      -- found = list(range(1, rise + 1))
      refine ⟨_, rfl, _, _, rfl, rfl, _, _, rfl, fun r hr2 => ?_⟩
      have s1 := same_new (o := .rng 1 ((k : Int) + 1)) hr2
      refine ⟨r, 1, k, _, _, rfl, upd_same, rfl, by omega, by omega, by omega, fun L hL => ?_⟩
      rw [range_ints]
      have L0 := (w1.pure s1).s.free hL
      have Lp := (w1.pure s1).ne hL
      have w2 := (w1.pure s1).over (o := .lst (((List.range' 1 k).map fun i => ((i : Nat) : Int)).map V.int)) L0 Lp
      revert w2
      have hLL : (upd (upd H2 r (.rng 1 ((k : Int) + 1))) L (.lst (((List.range' 1 k).map fun i => ((i : Nat) : Int)).map V.int))) L = some (.lst (((List.range' 1 k).map fun i => ((i : Nat) : Int)).map V.int)) := upd_same
      have ne0 : ((List.range' 1 k).map fun i => ((i : Nat) : Int)) ≠ [] := by
        intro z
        have := congrArg List.length z
        rw [List.length_map, List.length_range'] at this
        simp at this
        omega
      revert hLL ne0 ff0
      generalize ((List.range' 1 k).map fun i => ((i : Nat) : Int)) = ns0
      generalize (upd (upd H2 r (.rng 1 ((k : Int) + 1))) L (.lst (ns0.map V.int))) = H3
      intro ff0 hLL ne0 w2
      -- for turn in range(draw(pot, 8))
      have w3 := w2.got L0 Lp hLL
      refine ⟨_, rfl, p, 8, _, rfl, w3, by decide, by decide, fun H4 d2 w4 e0 e1 => ⟨d2, rfl, by omega, by omega, for_range (n := d2.toNat) (fun i σ H5 => ∃ (ns : List Int) (y3 y5 : Option V), σ = [some (.ref p), some (.int 24), some (.int (k : Nat)), y3, some (.ref L), y5] ∧ Wd p (upd D L (.lst (ns.map V.int))) H5 ∧ ns ≠ [] ∧ ff ns = none) ⟨ns0, _, none, rfl, w4, ne0, ff0⟩ ?_ ?_⟩⟩
      · rintro i σ H5 hi ⟨ns, y3, y5, rfl, w5, ne, hf⟩
        obtain ⟨r1, r2, r3, r4⟩ := (row_iff ns).mpr hf
        have hL5 : H5 L = some (.lst (ns.map V.int)) := w5.s _ _ upd_same
        obtain ⟨ys, a, rfl⟩ := (snoc_cases ns).resolve_left ne
        refine ⟨_, rfl, _, rfl, L, _, _, _, rfl, rfl, SqL.mk hL5, at_last, ?_⟩
        refine ⟨_, rfl, _, rfl, L, _, rfl, SqL.mk hL5, _, _, rfl, rfl, _, _, rfl, ?_⟩
        have a0 : 0 < a := r2 a (by simp)
        have a9 : a ≤ ((ys ++ [a]).length : Nat) := row_le ⟨r1, r2, r3, r4⟩ a (by simp)
        obtain ⟨m, hm, ma, ms⟩ : ∃ m : Int, (if 24 - (ys ++ [a]).sum < a then 24 - (ys ++ [a]).sum else a) = m ∧ m ≤ a ∧ m ≤ 24 - (ys ++ [a]).sum := ⟨_, rfl, by split <;> omega, by split <;> omega⟩
        dsimp only
        rw [hm]
        refine ⟨_, rfl, _, _, rfl, rfl, _, rfl, ?_⟩
        by_cases m1 : m < 1
        · rw [decide_eq_true m1]
          exact iteT ⟨_, rfl, q _ _ _ (same_new L0) w5 ⟨L, _, rfl, upd_same, ne, hf⟩⟩
        · rw [decide_eq_false m1]
          refine iteF ⟨_, rfl, L, _, rfl, .inl (SqL.mk hL5), rfl, _, rfl, ?_⟩
          by_cases l9 : (ys ++ [a]).length = 9
          · rw [decide_eq_true (show V.int (((ys ++ [a]).map V.int).length : Nat) = V.int 9 by rw [List.length_map, l9]; rfl)]
            exact iteT ⟨_, rfl, q _ _ _ (same_new L0) w5 ⟨L, _, rfl, upd_same, ne, hf⟩⟩
          · rw [decide_eq_false (show ¬ V.int (((ys ++ [a]).map V.int).length : Nat) = V.int 9 from fun z => l9 (by have := V.int.inj z; rw [List.length_map] at this; omega))]
            refine iteF ⟨_, rfl, .inl ⟨rfl, _, SqL.mk hL5⟩, _, rfl, _, rfl, p, m, _, rfl, w5, by omega, by omega, fun H6 d3 w6 f0 f1 => ⟨_, _, rfl, rfl, ?_⟩⟩
            have hL6 : H6 L = some (.lst ((ys ++ [a]).map V.int)) := w6.s _ _ upd_same
            refine ⟨L, _, _, rfl, rfl, hL6, Nat.lt_of_le_of_lt (show ((ys ++ [a]).map V.int).length ≤ 9 by rw [List.length_map]; exact r1) (by decide), ?_⟩
            refine ⟨(ys ++ [a]) ++ [1 + d3], _, _, rfl, ?_, by simp, ?_⟩
            · have e : ((ys ++ [a]).map V.int) ++ [V.int (1 + d3)] = (((ys ++ [a]) ++ [1 + d3]).map V.int) := by simp
              dsimp only
              rw [e]
              exact (w6.put L0 Lp).got L0 Lp upd_same
            · rw [ff_snoc, hf]
              show (if okStep _ _ _ _ then none else some _) = none
              rw [if_pos ⟨l9, by omega, .inr ⟨by omega, by rw [lastI_snoc]; omega⟩⟩]
      · rintro σ H5 ⟨ns, y3, y5, rfl, w5, ne, hf⟩
        exact ⟨_, rfl, q _ _ _ (same_new L0) w5 ⟨L, _, rfl, upd_same, ne, hf⟩⟩
end
end G0

namespace G0
open PySem PySem.Spec PyProof.Rows L2
abbrev s_can : Stmt := top 20
abbrev s_lfault : Stmt := top 21
theorem cut_lo (xs : List V) (i : Nat) : cutV xs none (some (i : Int)) = xs.take i := by
  unfold cutV
  rw [HT.sIx_none, HT.sIx_nat, List.drop_zero, Nat.sub_zero]
  by_cases h : i ≤ xs.length
  · rw [Nat.min_eq_left h]
  · rw [Nat.min_eq_right (by omega), List.take_length, List.take_of_length_le (by omega)]
theorem cut_hi (xs : List V) (i : Nat) : cutV xs (some (i : Int)) none = xs.drop i := by
  unfold cutV
  rw [HT.sIx_none, HT.sIx_nat]
  by_cases h : i ≤ xs.length
  · rw [Nat.min_eq_left h, List.take_of_length_le (by rw [List.length_drop]; omega)]
  · rw [Nat.min_eq_right (by omega), Nat.sub_self, List.take_zero, List.drop_of_length_le (by omega)]
theorem plcGo_take (j : Int) {ns : List Int} {i : Nat} {n : Int} (h : ns[i]? = some n) : plc j (ns.take (i + 1)) = plc j (ns.take i) ++ if j < n then [i] else [] := by
  have hi := (List.getElem?_eq_some_iff.mp h).1
  rw [List.take_add_one, h]
  show plc j (ns.take i ++ [n]) = _
  rw [plc_snoc, List.length_take, Nat.min_eq_left (by omega)]
theorem plc_len (j : Int) : ∀ ns : List Int, (plc j ns).length ≤ ns.length := by
  have gen : ∀ (ns : List Int) (k : Nat), (plcGo j k ns).length ≤ ns.length := by
    intro ns
    induction ns with
    | nil => intro k; exact Nat.le_refl _
    | cons n ns ih =>
      intro k
      rw [plcGo, List.length_append, List.length_cons]
      have := ih (k + 1)
      split <;> simp <;> omega
  exact fun ns => gen ns 0
theorem _root_.L2.Same.put {H H' : Hp} {L : Addr} {o : HO} (e : Same H H') (h : H L = none) : Same H (upd H' L o) := fun b u eb => by
  rw [upd_ne (ne_of_none eb h)]
  exact e _ _ eb
def natV (ks : List Nat) : List V := ks.map fun i => V.int (i : Nat)
theorem natV_dp {K : PySem.W.Frag} {H : Hp} (ks : List Nat) : DpAll K H (natV ks) ((ks.map fun i => ((i : Nat) : Int)).map PyData.int) := by
  have := dp_ints (K := K) (H := H) (ks.map fun i => ((i : Nat) : Int))
  rw [List.map_map] at this
  exact this
theorem shaped_lst (ns : List Int) : SeqAt.shaped (dLst ns) = true := by
  have lay : ∀ ns : List Int, PyData.canLayAll0 (ns.map PyData.int) = true := by
    intro ns
    induction ns with
    | nil => rfl
    | cons n ns ih => simp [PyData.canLayAll0, PyData.canLay0, ih]
  have dep : ∀ ns : List Int, PyData.depthAll (ns.map PyData.int) = 0 := by
    intro ns
    induction ns with
    | nil => rfl
    | cons n ns ih => simp [PyData.depthAll, PyData.depth, ih]
  show (PyData.canLay0 (dLst ns) && decide (PyData.depth (dLst ns) ≤ 64)) = true
  simp only [dLst, PyData.canLay0, lay, PyData.depth, dep]
  decide
theorem eqv_lst (ns ms : List Int) : PyData.eqv (dLst ns) (dLst ms) = decide (ns = ms) := by
  show PyData.eqvAll _ _ = _
  exact eqv_ints ns ms
theorem le_sum : ∀ {ns : List Int}, (∀ n ∈ ns, 0 < n) → ∀ n ∈ ns, 0 ≤ ns.sum - n
  | [], _, n, h => by cases h
  | x :: xs, p, n, h => by
    rw [List.sum_cons]
    have px : ∀ n ∈ xs, 0 < n := fun m hm => p m (by simp [hm])
    have s0 : 0 ≤ xs.sum := by
      cases xs with
      | nil => simp
      | cons y ys =>
        have := le_sum px y (by simp)
        have := px y (by simp)
        omega
    rcases List.mem_cons.mp h with rfl | h
    · omega
    · have := le_sum px n h
      have := p x (by simp)
      omega
theorem nat_inj {ks ms : List Nat} : (ks.map fun i => ((i : Nat) : Int)) = (ms.map fun i => ((i : Nat) : Int)) ↔ ks = ms := by
  constructor
  · intro h
    exact (List.map_inj_right (fun _ _ e => by omega)).mp h
  · rintro rfl
    rfl
section
variable {P : Program} {w : World} {K : PySem.W.Frag} {mg : Str → Option Value} {base : Heap}
def sp_can (K : PySem.W.Frag) : Sp := fun vs H Q _ => ∃ (l : Addr) (ns : List Int), vs = [.ref l] ∧ SqL K H l (ns.map V.int) ∧ ∀ H' b, Same H H' → (b = true ↔ Can ns) → Q (.bl b) H'
theorem sc_can : FnScope ["_law_value", "_law_number", "_law_j", "_law_places", "_law_at"] ["_law_value"] (defScope s_can) := ⟨rfl, rfl, rfl, by decide +kernel, rfl, by decide +kernel, by decide +kernel⟩
theorem ok_can {f : Addr} {fd : FuncData} (F : Fun K "_law_can" "_law_can" s_can f fd) (B : Blt mg) : FnOk P w K mg base CX0 1 f fd ["_law_value"] (sp_can K) := by
  refine F.ok sc_can (fun vs H Q E h => ?_) (fun cdv A outer s H vs Q E hr h => ?_)
  · obtain ⟨l, ns, rfl, _⟩ := h
    rfl
  · obtain ⟨l, ns, rfl, hs, q⟩ := h
    have hu := hr.units
    refine ⟨_, pss_cons (ps_if (PW.pt (pw_or (pt_not (pt_val (pe_callB call_isiT (by rfl) B.isinstance boot_isi (pa_cons (pv 0) (pa_cons (pe_tup (pa_cons (pty B.list boot_tlist) (pa_cons (pty B.tuple boot_ttuple) pa_nil))) pa_nil))))) (pw_or1 (pt_not (pt_chain op_le op_le pe_int (pe_callB call_len_seq (by rfl) B.len PySem.boot_len (pa_cons (pv 0) pa_nil)) pe_int))))) (pss_one (ps_ret pe_bl)) pss_nil)
      (pss_cons (ps_if (PW.pt (pw_or (pt_not (pt_val (pe_callB (cr_all rfl) (by rfl) B.all boot_all (pa_cons (pe_lc (own := [("_law_number", 1)]) (g := gName 1) (tt := tYes) rfl sc_can.nd (pi_list (pv 0)) (blkOk_by (N := ["_law_value", "_law_number", "_law_j", "_law_places", "_law_at"]) (sc := defScope s_can) (by decide +kernel)) (fun _ _ _ _ _ => pg_name (i := 1) sc_can.nd rfl (Or.inl rfl)) (fun _ _ _ _ _ => pts_nil) (fun _ _ _ _ _ => (pe_and (pe_callB (isiK (K := K) rfl) (by rfl) B.isinstance boot_isi (pa_cons (pv 1) (pa_cons (pty B.int boot_tint) pa_nil))) (pe_and (pe_not (pe_callB (isiK (K := K) rfl) (by rfl) B.isinstance boot_isi (pa_cons (pv 1) (pa_cons (pty B.bool boot_tbool) pa_nil)))) (pe_one (pe_cmpR op_gt (pv 1) pe_int (nomark _))))))) pa_nil)))) (pw_or1 (pt_cmpR op_gt (pe_callB (cr_sum rfl) (by rfl) B.sum boot_sum (pa_cons (pv 0) pa_nil)) pe_int (nomark _))))) (pss_one (ps_ret pe_bl)) pss_nil)
      (pss_cons (ps_for PassesOwn.never rfl (pi_range1 (by rfl) B.range (pa_cons (pe_callB (cr_max rfl) (by rfl) B.max boot_max (pa_cons (pv 0) pa_nil)) pa_nil)) (pg_name (i := 2) sc_can.nd rfl (Or.inr rfl)) (pss_cons (ps_setLc (i := 3) (own := [("_law_at", 4), ("_law_number", 1)]) (g := (gTup K 2 (gCons (gName 4) (gCons (gName 1) gNil)))) rfl sc_can.nd rfl rfl (sw_true rfl rfl rfl (by decide +kernel)) (pi_E true (by rfl) B.enumerate (pa_cons (pv 0) pa_nil)) (blkOk_by (N := ["_law_value", "_law_number", "_law_j", "_law_places", "_law_at"]) (sc := defScope s_can) (by decide +kernel)) (fun _ _ _ _ _ => pg_tup rfl (pgs_cons (pg_name (i := 4) sc_can.nd rfl (Or.inl rfl)) (pgs_cons (pg_name (i := 1) sc_can.nd rfl (Or.inl rfl)) pgs_nil))) (fun _ _ _ _ _ => pts_one (pt_cmpR op_gt (pv 1) (pv 2) (nomark _))) (fun _ _ _ _ _ => (pv 4)))
        (pss_one (ps_if (pt_cmpR (op_neD hu) (pv 3) (pe_callTy (cr_listRng2 rfl) (by rfl) B.list boot_tlist (pa_cons (pe_callTy cr_range2 (by rfl) B.range boot_trange (pa_cons (pv 2) (pa_cons (pe_op op_add (pv 2) (pe_callB call_len_seq (by rfl) B.len PySem.boot_len (pa_cons (pv 3) pa_nil))) pa_nil))) pa_nil)) (nomark _)) (pss_one (ps_ret pe_bl)) pss_nil))))
      (pss_one (ps_ret pe_bl)))), ?_⟩
    have len : (ns.map V.int).length = ns.length := List.length_map ..
    have no : ∀ H', Same H H' → ¬ Can ns → Q (.bl false) H' := fun H' s' c => q H' false s' ⟨fun z => (nomatch z), fun z => absurd z c⟩
    -- the kind, the length
    refine ⟨_, rfl, by show 2 ≤ sizeLine; decide, fun p hp => ?_⟩
    have s1 : Same H (upd H p (.tup [.ty "list", .ty "tuple"])) := same_new hp
    have hs1 := s1.seq hs
    refine ⟨_, p, _, _, _, true, rfl, upd_same, .cons (.ty "list") (.cons (.ty "tuple") .nil), ty_l hs1, kitAny_cons kit_ll (fun z => nomatch z) fun _ => rfl, ⟨true, rfl, iteF ?_⟩⟩
    revert s1 hs1
    generalize upd H p (.tup [.ty "list", .ty "tuple"]) = H1
    intro s1 hs1
    refine ⟨_, rfl, l, _, rfl, .inl hs1, _, _, rfl, rfl, _, rfl, ?_⟩
    rw [len]
    by_cases c1 : (1 : Int) ≤ ((ns.length : Nat) : Int)
    rotate_left
    · rw [decide_eq_false c1]
      exact iteF ⟨_, rfl, iteT (no _ s1 fun c => c.1 (List.length_eq_zero_iff.mp (by omega)))⟩
    rw [decide_eq_true c1]
    refine iteT ⟨_, _, rfl, rfl, _, rfl, ?_⟩
    by_cases c9 : ((ns.length : Nat) : Int) ≤ 9
    rotate_left
    · rw [decide_eq_false c9]
      exact iteT (no _ s1 fun c => c9 (by have := c.2.len; omega))
    rw [decide_eq_true c9]
    refine iteF ?_
    -- all above 0
    let FX : Nat → V := fun i => V.bl (decide (0 < ns.getD i 0))
    refine ⟨_, rfl, l, rfl, ⟨_, hs1⟩, fun D hD => lcI FX hs1 (by rw [len, sizeLine_eq]; omega) hD (fun i u hi H2 s2 G N gk => ⟨rfl, yes_ite ?_⟩) fun H2 s2 h2 => ?_⟩
    · rw [List.getElem?_map] at hi
      obtain ⟨n, hn, rfl⟩ : ∃ n, ns[i]? = some n ∧ u = V.int n := by
        cases e : ns[i]? with
        | none => rw [e] at hi; cases hi
        | some n => rw [e] at hi; cases hi; exact ⟨n, rfl, rfl⟩
      have g2 := gk H2 (Same.refl _)
      have ef : FX i = V.bl (decide (0 < n)) := by
        show V.bl (decide (0 < ns.getD i 0)) = _
        rw [List.getD_eq_getElem?_getD, hn]
        rfl
      rw [ef] at g2
      refine ⟨_, rfl, _, _, _, _, true, rfl, .ty "int", .base (.int n), kit_ii, true, rfl, iteT ?_⟩
      refine ⟨_, rfl, _, _, _, _, false, rfl, .ty "bool", .base (.int n), kit_ib, false, rfl, true, rfl, iteT ?_⟩
      exact ⟨_, rfl, _, _, rfl, rfl, g2⟩
    rw [len, range_getD ns 0 fun n => V.bl (decide (0 < n))] at h2
    have sA := s1.trans s2
    have hsA := sA.seq hs
    refine ⟨D, ns.map fun n => decide (0 < n), rfl, SqL.mk (by rw [h2, List.map_map]; rfl), _, rfl, ?_⟩
    by_cases pos : ∀ n ∈ ns, 0 < n
    rotate_left
    · have e : ((ns.map fun n => decide (0 < n)).all id) = false := by
        rw [Bool.eq_false_iff]
        intro z
        rw [List.all_eq_true] at z
        exact pos fun n hn => of_decide_eq_true (z _ (List.mem_map.mpr ⟨n, hn, rfl⟩))
      rw [e]
      exact iteT (no _ sA fun c => pos c.2.pos)
    have e : ((ns.map fun n => decide (0 < n)).all id) = true := by
      rw [List.all_eq_true]
      intro z hz
      obtain ⟨n, hn, rfl⟩ := List.mem_map.mp hz
      exact decide_eq_true (pos n hn)
    rw [e]
    refine iteF ⟨_, rfl, l, ns, rfl, hsA, _, _, rfl, rfl, _, rfl, ?_⟩
    by_cases sm : 24 < ns.sum
    · rw [decide_eq_true sm]
      exact iteT (no _ sA fun c => by have := c.2.sum; omega)
    rw [decide_eq_false sm]
    refine iteF ?_
    revert hsA sA
    clear h2
    generalize H2 = H3
    intro sA hsA
    have ne : ns ≠ [] := fun z => by rw [z] at c1; exact absurd c1 (by decide)
    -- the levels
    refine ⟨_, rfl, l, ns, rfl, hsA, List.length_pos_iff.mpr ne, fun m mm mx => ?_⟩
    have m24 : m ≤ 24 := by
      have := le_sum pos m mm
      omega
    have m0 := pos m mm
    have yes : (∀ j : Nat, j < m.toNat → plc (j : Int) ns = List.range' j (plc (j : Int) ns).length) → Can ns := fun h => ⟨ne, by omega, pos, by omega, fun j hj => h j (by
      obtain ⟨n, hn, hl⟩ := hj
      have := mx n hn
      omega)⟩
    refine ⟨m, rfl, by omega, by omega, for_range (n := m.toNat) (fun i σ H4 => ∃ y1 y2 y3 y4, σ = [some (.ref l), y1, y2, y3, y4] ∧ Same H H4 ∧ ∀ j : Nat, j < i → plc (j : Int) ns = List.range' j (plc (j : Int) ns).length) ⟨_, _, _, _, rfl, sA, fun j z => absurd z (Nat.not_lt_zero j)⟩ ?_ ?_⟩
    · rintro i σ H4 hi ⟨y1, y2, y3, y4, rfl, s4, al⟩
      have hs4 := s4.seq hs
      have e0 : (0 : Int) + (i : Nat) = (i : Nat) := by omega
      dsimp only
      rw [e0]
      refine ⟨_, rfl, l, _, rfl, hs4, fun D2 hD2 => lc_it (walk_E (b := true) (xs := ns.map V.int)) (fun k H5 => Same H4 H5 ∧ H5 D2 = some (.lst (natV (plc (i : Int) (ns.take k))))) ⟨same_new hD2, upd_same⟩ (fun k H5 _ h => h.1.seq hs4) ?_ ?_⟩
      · rintro k y H5 H6 hk ⟨s5, h5⟩ ⟨Tp, z1, z2, rfl, nT, rfl, ez1, ez2⟩
        cases ez1
        have hl : k < ns.length := by rw [len] at hk; exact hk
        have en : ns[k]? = some ns[k] := List.getElem?_eq_getElem hl
        have ez3 : (ns.map V.int)[k]? = some z2 := ez2
        rw [List.getElem?_map, en] at ez3
        cases ez3
        clear ez2
        revert en
        generalize ns[k] = n
        intro en
        have sT : Same H5 (upd H5 Tp (.tup [.int (k : Nat), .int n])) := same_new nT
        refine ⟨Tp, _, rfl, SqT.mk upd_same, rfl, _, _, rfl, _, _, rfl, rfl, rfl, ?_⟩
        refine ⟨_, rfl, _, rfl, _, _, rfl, rfl, _, rfl, ?_⟩
        have pe := plcGo_take (i : Int) en
        by_cases c : (i : Int) < n
        · rw [if_pos c] at pe
          rw [decide_eq_true c]
          refine iteT ⟨_, rfl, _, sT _ _ h5, ?_, ?_, ?_⟩
          · have := plc_len (i : Int) (ns.take k)
            rw [List.length_take] at this
            show (List.map _ _).length < sizeLine
            rw [List.length_map, sizeLine_eq]
            omega
          · exact (s5.trans sT).put hD2
          · rw [upd_same, pe]
            show some (HO.lst (List.map _ _ ++ _)) = some (HO.lst (List.map _ _))
            rw [List.map_append]
            rfl
        · rw [if_neg c, List.append_nil] at pe
          rw [decide_eq_false c]
          refine iteF ⟨s5.trans sT, ?_⟩
          rw [pe]
          exact sT _ _ h5
      · rintro H5 ⟨s5, h5⟩
        rw [len, List.take_length] at h5
        have pl9 := plc_len (i : Int) ns
        have ll : (natV (plc (i : Int) ns)).length = (plc (i : Int) ns).length := List.length_map ..
        refine ⟨_, rfl, _, rfl, _, rfl, _, rfl, D2, _, rfl, .inl (SqL.mk h5), _, _, rfl, rfl, _, _, rfl, fun r hr2 => ?_⟩
        have s6 := same_new (o := .rng (i : Nat) ((i : Nat) + ((natV (plc (i : Int) ns)).length : Nat))) hr2
        refine ⟨r, i, (plc (i : Int) ns).length, _, _, rfl, upd_same, rfl, by rw [ll]; omega, by omega, by omega, fun L hL => ?_⟩
        have s7 := s6.trans (same_new (o := .lst (natV (List.range' i (plc (i : Int) ns).length))) hL)
        refine ⟨_, _, .lst (SqL.mk (s7 _ _ h5)) (natV_dp _), .lst (SqL.mk upd_same) (natV_dp _), shaped_lst _, shaped_lst _, ?_⟩
        have ee : PyData.eqv (.list (((plc (i : Int) ns).map fun i => ((i : Nat) : Int)).map PyData.int)) (.list (((List.range' i (plc (i : Int) ns).length).map fun i => ((i : Nat) : Int)).map PyData.int)) = decide (plc (i : Int) ns = List.range' i (plc (i : Int) ns).length) := by
          refine (eqv_lst _ _).trans ?_
          rw [Bool.eq_iff_iff, decide_eq_true_iff, decide_eq_true_iff]
          exact nat_inj
        rw [ee]
        have sB := (s4.trans s5).trans s7
        by_cases c : plc (i : Int) ns = List.range' i (plc (i : Int) ns).length
        · rw [decide_eq_true c]
          refine ⟨_, rfl, iteF ⟨_, _, _, _, rfl, sB, fun j hj => ?_⟩⟩
          by_cases ji : j = i
          · rw [ji]
            exact c
          · exact al j (by omega)
        · rw [decide_eq_false c]
          refine ⟨_, rfl, iteT (no _ sB fun cc => c (cc.2.pl i ⟨m, mm, by omega⟩))⟩
    · rintro σ H4 ⟨y1, y2, y3, y4, rfl, s4, al⟩
      exact q _ true s4 ⟨fun _ => yes al, fun _ => rfl⟩
/-! _law_fault -/
def sp_lfault (K : PySem.W.Frag) : Sp := fun vs H Q _ => ∃ (l : Addr) (ns : List Int), vs = [.ref l] ∧ SqL K H l (ns.map V.int) ∧ ns.length < 1000000 ∧ ∀ H', Same H H' → Q (optV (ff ns)) H'
theorem sc_lfault : FnScope ["_law_numbers", "_law_at"] ["_law_numbers"] (defScope s_lfault) := ⟨rfl, rfl, rfl, by decide +kernel, rfl, by decide +kernel, by decide +kernel⟩
theorem ok_lfault {f f1 : Addr} {fd fd1 : FuncData} (F : Fun K "_law_fault" "_law_fault" s_lfault f fd) (B : Blt mg) (Dcan : Df K mg "_law_can" s_can ["_law_value"] f1 fd1) (Gcan : FnOk P w K mg base CX0 1 f1 fd1 ["_law_value"] (sp_can K)) : FnOk P w K mg base CX0 2 f fd ["_law_numbers"] (sp_lfault K) := by
  refine F.ok sc_lfault (fun vs H Q E h => ?_) (fun cdv A outer s H vs Q E hr h => ?_)
  · obtain ⟨l, ns, rfl, _⟩ := h
    rfl
  · obtain ⟨l, ns, rfl, hs, hl, q⟩ := h
    have len : (ns.map V.int).length = ns.length := List.length_map ..
    refine ⟨_, pss_cons (ps_for PassesOwn.never rfl (pi_range1 (by rfl) B.range (pa_cons (pe_callB call_len_seq (by rfl) B.len PySem.boot_len (pa_cons (pv 0) pa_nil)) pa_nil)) (pg_name (i := 1) sc_lfault.nd rfl (Or.inl rfl)) (pss_one (ps_if (pt_not (pt_val (pdf Dcan Gcan hr (pa_cons (pe_slice sl_list (pv 0) po_none (po_some (pe_op op_add (pv 1) pe_int))) pa_nil)))) (pss_one (ps_ret (pv 1))) pss_nil)))
      (pss_one (ps_ret pe_non)), ?_⟩
    refine ⟨_, rfl, l, _, rfl, .inl hs, _, rfl, by omega, by rw [len]; omega, for_range (n := (((ns.map V.int).length : Nat) : Int).toNat) (fun i σ H4 => ∃ y1, σ = [some (.ref l), y1] ∧ Same H H4 ∧ ff (ns.take i) = none) ⟨_, rfl, Same.refl _, rfl⟩ ?_ ?_⟩
    · rintro i σ H4 hi ⟨y1, rfl, s4, h0⟩
      have hs4 := s4.seq hs
      have hi : i < ns.length := by rw [len] at hi; omega
      have en : ns[i]? = some ns[i] := List.getElem?_eq_getElem hi
      have fe := ff_take en h0
      have e0 : (0 : Int) + (i : Nat) = (i : Nat) := by omega
      dsimp only
      rw [e0]
      refine ⟨_, rfl, _, rfl, _, _, rfl, rfl, _, rfl, l, _, rfl, hs4, fun c hc => ?_⟩
      have ec : cutV (ns.map V.int) none (some ((i : Nat) + 1)) = (ns.take (i + 1)).map V.int := by
        have := cut_lo (ns.map V.int) (i + 1)
        rw [← List.map_take] at this
        exact this
      rw [ec]
      have sC := same_new (o := .lst ((ns.take (i + 1)).map V.int)) hc
      refine ⟨c, _, rfl, SqL.mk upd_same, fun H5 b s5 hb => ⟨b, rfl, ?_⟩⟩
      have ne : ns.take (i + 1) ≠ [] := fun z => by
        have := congrArg List.length z
        rw [List.length_take] at this
        have h2 : min (i + 1) ns.length = 0 := this
        omega
      rw [can_iff ne] at hb
      have sB := (s4.trans sC).trans s5
      cases b with
      | true => exact iteF ⟨_, rfl, sB, hb.mp rfl⟩
      | false =>
        refine iteT ⟨_, rfl, ?_⟩
        have := q _ sB
        by_cases c : okStep i (lastI 0 (ns.take i)) (ns.take i).sum ns[i]
        · rw [if_pos c] at fe
          have := hb.mpr fe
          cases this
        · rw [if_neg c] at fe
          rw [ff_stop fe] at this
          exact this
    · rintro σ H4 ⟨y1, rfl, s4, h0⟩
      rw [List.take_of_length_le (by rw [len]; omega)] at h0
      have := q _ s4
      rw [h0] at this
      exact this
end
end G0

namespace G0
open PySem PySem.Spec PyProof.Rows L2
abbrev s_bent : Stmt := top 22
/-- short lists of small counts -/
structure Cn (b : Nat) (ns : List Int) : Prop where
  ne : ns ≠ []
  lo : ∀ n ∈ ns, 0 ≤ n
  hi : ∀ n ∈ ns, n < 1000
  len : ns.length ≤ b
def CnAt (b : Nat) (v : V) (D : Hp) : Prop := ∃ L ns, v = .ref L ∧ D L = some (.lst (ns.map V.int)) ∧ Cn b ns
theorem Cn.perm {b : Nat} {ns ms : List Int} (h : Cn b ns) (p : ms.Perm ns) : Cn b ms := by
  refine ⟨fun z => h.ne ?_, fun n hn => h.lo n (p.mem_iff.mp hn), fun n hn => h.hi n (p.mem_iff.mp hn), by rw [p.length_eq]; exact h.len⟩
  rw [z] at p
  exact p.symm.eq_nil
theorem Cn.of {b c : Nat} {ns ms : List Int} (h : Cn b ns) (ne : ms ≠ []) (l : ms.length ≤ c) (m : ∀ n ∈ ms, n ∈ ns ∨ (0 ≤ n ∧ n < 1000)) : Cn c ms :=
  ⟨ne, fun n hn => (m n hn).elim (h.lo n) (·.1), fun n hn => (m n hn).elim (h.hi n) (·.2), l⟩
theorem Cn.row {ns : List Int} (ne : ns ≠ []) (hf : ff ns = none) : Cn 9 ns := by
  have r := (row_iff ns).mpr hf
  refine ⟨ne, fun n hn => ?_, fun n hn => ?_, r.len⟩
  · have := r.pos n hn
    omega
  · have := row_le r n hn
    have := r.len
    omega
/-- xs[:i] + [v] + xs[j:] -/
theorem mix3 {K : PySem.W.Frag} {tn ta tx tb : TE} {σ : L2.St} {H : Hp} {Q : VK} {l : Addr} {xs : List V} {v : V} {i j : Nat} (hn : ∀ H R, R (.ref l) H → tn σ H R) (ha : ∀ H R, R (.int (i : Nat)) H → ta σ H R) (hx : ∀ H R, R v H → tx σ H R) (hb : ∀ H R, R (.int (j : Nat)) H → tb σ H R)
    (h : H l = some (.lst xs)) (hl : xs.length < 1000) (q : ∀ H' L, Same H H' → H' L = none → Q (.ref L) (upd H' L (.lst (xs.take i ++ [v] ++ xs.drop j)))) :
    tOp rCat (tOp rCat (tSl (rSlL K) tn tNoPart (tPart ta)) (tLst (tCons tx tNil))) (tSl (rSlL K) tn (tPart tb) tNoPart) σ H Q := by
  refine hn _ _ (ha _ _ ⟨_, rfl, l, xs, rfl, SqL.mk h, fun p1 hp1 => ?_⟩)
  rw [cut_lo]
  have s1 := same_new (o := .lst (xs.take i)) hp1
  have z1 : (upd H p1 (.lst (xs.take i))) p1 = some (.lst (xs.take i)) := upd_same
  revert s1 z1
  generalize upd H p1 (.lst (xs.take i)) = H1
  intro s1 z1
  refine hx _ _ ⟨by show 1 ≤ sizeLine; decide, fun p2 hp2 => ?_⟩
  have s2 := same_new (o := .lst [v]) hp2
  have z2 : (upd H1 p2 (.lst [v])) p2 = some (.lst [v]) := upd_same
  revert s2 z2
  generalize upd H1 p2 (.lst [v]) = H2
  intro s2 z2
  have lt : (xs.take i).length ≤ xs.length := by rw [List.length_take]; exact Nat.min_le_right _ _
  refine ⟨p1, p2, _, _, rfl, rfl, s2 _ _ z1, z2, ?_, fun p3 hp3 => ?_⟩
  · rw [List.length_singleton, sizeLine_eq]
    omega
  have s3 := same_new (o := .lst (xs.take i ++ [v])) hp3
  have z3 : (upd H2 p3 (.lst (xs.take i ++ [v]))) p3 = some (.lst (xs.take i ++ [v])) := upd_same
  revert s3 z3
  generalize upd H2 p3 (.lst (xs.take i ++ [v])) = H3
  intro s3 z3
  have s03 := (s1.trans s2).trans s3
  refine hn _ _ (hb _ _ ⟨_, rfl, l, xs, rfl, SqL.mk (s03 _ _ h), fun p4 hp4 => ?_⟩)
  rw [cut_hi]
  have s4 := same_new (o := .lst (xs.drop j)) hp4
  refine ⟨p3, p4, _, _, rfl, rfl, s4 _ _ z3, upd_same, ?_, fun p5 hp5 => q _ _ (s03.trans s4) hp5⟩
  rw [List.length_append, List.length_singleton, List.length_drop, sizeLine_eq]
  omega
theorem Wd.weak {p : Addr} {D D' H : Hp} (w : Wd p D' H) (e : Same D D') : Wd p D H := ⟨e.trans w.s, e.free w.n, w.pot⟩
section
variable {P : Program} {w : World} {K : PySem.W.Frag} {mg : Str → Option Value} {base : Heap}
def sp_bent : Sp := fun vs H Q _ => ∃ (p l : Addr) (D : Hp) (ns : List Int) (b : Nat), vs = [.ref p, .ref l] ∧ Wd p D H ∧ D l = some (.lst (ns.map V.int)) ∧ Cn b ns ∧ b ≤ 50 ∧ Gets p D (CnAt (b + 3)) Q
theorem sc_bent : FnScope ["_law_pot_here", "_law_numbers", "_law_at", "_law_number", "_law_way"] ["_law_pot_here", "_law_numbers"] (defScope s_bent) := ⟨rfl, rfl, rfl, by decide +kernel, rfl, by decide +kernel, by decide +kernel⟩
theorem ok_bent {f f1 : Addr} {fd fd1 : FuncData} (F : Fun K "_law_bent" "_law_bent" s_bent f fd) (B : Blt mg) (Ddraw : Df K mg "_law_draw" s_draw ["_law_pot_here", "_law_size"] f1 fd1) (Gdraw : FnOk P w K mg base CX0 1 f1 fd1 ["_law_pot_here", "_law_size"] sp_draw) :
    FnOk P w K mg base CX0 2 f fd ["_law_pot_here", "_law_numbers"] sp_bent := by
  refine F.ok sc_bent (fun vs H Q E h => ?_) (fun cdv A outer s H vs Q E hr h => ?_)
  · obtain ⟨p, l, D, ns, b, rfl, _⟩ := h
    rfl
  · obtain ⟨p, l, D, ns, b, rfl, wd, hl, cn, b50, q⟩ := h
    refine ⟨_, pss_cons (ps_par3 (i := 2) (j := 3) (l := 4) rfl sc_bent.nd rfl rfl rfl (by decide) (by decide) (by decide) rfl rfl rfl (pa_cons (pdf Ddraw Gdraw hr (pa_cons (pv 0) (pa_cons (pe_callB call_len_seq (by rfl) B.len PySem.boot_len (pa_cons (pv 1) pa_nil)) pa_nil))) (pa_cons (pdf Ddraw Gdraw hr (pa_cons (pv 0) (pa_cons pe_int pa_nil))) (pa_cons (pdf Ddraw Gdraw hr (pa_cons (pv 0) (pa_cons pe_int pa_nil))) pa_nil))) (by rfl))
      (pss_cons (ps_if (pt_cmpR op_eq (pv 4) pe_int (nomark _)) (pss_one (ps_ret (pe_op op_cat (pe_op op_cat (pe_slice sl_list (pv 1) po_none (po_some (pv 2))) (pe_lst (pa_cons (pv 3) pa_nil))) (pe_slice sl_list (pv 1) (po_some (pe_op op_add (pv 2) pe_int)) po_none)))) pss_nil)
      (pss_cons (ps_if (pt_cmpR op_eq (pv 4) pe_int (nomark _)) (pss_one (ps_ret (pe_op op_cat (pe_op op_cat (pe_slice sl_list (pv 1) po_none (po_some (pv 2))) (pe_lst (pa_cons (pv 3) pa_nil))) (pe_slice sl_list (pv 1) (po_some (pv 2)) po_none)))) pss_nil)
      (pss_cons (ps_if (PW.pt (pw_and (pt_cmpR op_eq (pv 4) pe_int (nomark _)) (pw_and1 (pt_cmpR op_gt (pe_callB call_len_seq (by rfl) B.len PySem.boot_len (pa_cons (pv 1) pa_nil)) pe_int (nomark _))))) (pss_one (ps_ret (pe_op op_cat (pe_slice sl_list (pv 1) po_none (po_some (pv 2))) (pe_slice sl_list (pv 1) (po_some (pe_op op_add (pv 2) pe_int)) po_none)))) pss_nil)
      (pss_cons (ps_if (pt_cmpR op_eq (pv 4) pe_int (nomark _)) (pss_one (ps_ret (pe_op op_cat (pv 1) (pe_op op_rep (pe_lst (pa_cons (pv 3) pa_nil)) (pe_op op_add pe_int (pdf Ddraw Gdraw hr (pa_cons (pv 0) (pa_cons pe_int pa_nil)))))))) pss_nil)
      (pss_one (ps_ret (pe_ifExp (pt_cmpR op_eq (pv 4) pe_int (nomark _)) (pe_revL (pv 1)) (pe_callB cr_sorted (by rfl) B.sorted boot_sorted (pa_cons (pv 1) pa_nil))))))))), ?_⟩
    have len : (ns.map V.int).length = ns.length := List.length_map ..
    have lp : 0 < ns.length := List.length_pos_iff.mpr cn.ne
    have lb := cn.len
    refine ⟨_, rfl, _, rfl, l, _, rfl, .inl (SqL.mk (wd.s _ _ hl)), p, _, D, rfl, wd, by rw [len]; omega, by rw [len]; omega, fun H1 d w1 d0 d1 => ?_⟩
    rw [len] at d1
    refine ⟨_, rfl, p, 9, D, rfl, w1, by decide, by decide, fun H2 e w2 e0 e1 => ?_⟩
    refine ⟨_, rfl, p, 6, D, rfl, w2, by decide, by decide, fun H3 g w3 g0 g1 => ?_⟩
    refine ⟨_, _, _, rfl, ?_⟩
    obtain ⟨i, rfl⟩ := Int.eq_ofNat_of_zero_le d0
    have hi : i < ns.length := by omega
    have h3 := w3.s _ _ hl
    clear wd w1 w2
    -- what comes, new in the heap
    have fin : ∀ (ms : List Int) (L : Addr) (H4 : Hp), Cn (b + 3) ms → Same H3 H4 → H4 L = none → Q (.ref L) (upd H4 L (.lst (ms.map V.int))) := fun ms L H4 c s4 hL => by
      obtain ⟨w5, s5, h5⟩ := w3.new (s4.trans (same_new (o := .lst (ms.map V.int)) hL)) (s4.free hL) upd_same
      exact q _ _ _ s5 w5 ⟨L, ms, rfl, h5, c⟩
    have mem1 : ∀ n ∈ ns.take i, n ∈ ns := fun n h => List.mem_of_mem_take h
    have mem2 : ∀ j, ∀ n ∈ ns.drop j, n ∈ ns := fun j n h => List.mem_of_mem_drop h
    have cut : ∀ (ms : List Int) (L : Addr) (H4 : Hp) (us : List V), us = ms.map V.int → Cn (b + 3) ms → Same H3 H4 → H4 L = none → Q (.ref L) (upd H4 L (.lst us)) := fun ms L H4 us e c s4 hL => e ▸ fin ms L H4 c s4 hL
    have lt : ∀ j, (ns.take j).length ≤ ns.length := fun j => by rw [List.length_take]; exact Nat.min_le_right _ _
    have ld : ∀ j, (ns.drop j).length ≤ ns.length := fun j => by rw [List.length_drop]; exact Nat.sub_le _ _
    have eqd : ∀ k : Int, decide (V.int g = V.int k) = decide (g = k) := fun k => by simp
    dsimp only
    refine ⟨_, rfl, rfl, _, rfl, ?_⟩
    rw [eqd]
    by_cases g0 : g = 0
    · rw [decide_eq_true g0]
      refine iteT (mix3 (i := i) (j := i + 1) (v := .int e) (fun H R r => ⟨_, rfl, r⟩) (fun H R r => ⟨_, rfl, r⟩) (fun H R r => ⟨_, rfl, r⟩) (fun H R r => ⟨_, rfl, _, _, rfl, rfl, r⟩) h3 (by omega) fun H4 L s4 hL => ?_)
      refine cut (ns.take i ++ [e] ++ ns.drop (i + 1)) _ _ _ (by simp) (cn.of (by simp) ?_ fun n hn => ?_) s4 hL
      · simp only [List.length_append, List.length_singleton, List.length_take, List.length_drop]
        omega
      · rcases List.mem_append.mp hn with hn | hn
        · rcases List.mem_append.mp hn with hn | hn
          · exact .inl (mem1 n hn)
          · rw [List.mem_singleton.mp hn]
            exact .inr ⟨e0, by omega⟩
        · exact .inl (mem2 _ n hn)
    rw [decide_eq_false g0]
    refine iteF ?_
    dsimp only [tNext]
    refine ⟨_, rfl, rfl, _, rfl, ?_⟩
    rw [eqd]
    by_cases g1 : g = 1
    · rw [decide_eq_true g1]
      refine iteT (mix3 (i := i) (j := i) (v := .int e) (fun H R r => ⟨_, rfl, r⟩) (fun H R r => ⟨_, rfl, r⟩) (fun H R r => ⟨_, rfl, r⟩) (fun H R r => ⟨_, rfl, r⟩) h3 (by omega) fun H4 L s4 hL => ?_)
      refine cut (ns.take i ++ [e] ++ ns.drop i) _ _ _ (by simp) (cn.of (by simp) ?_ fun n hn => ?_) s4 hL
      · simp only [List.length_append, List.length_singleton, List.length_take, List.length_drop]
        omega
      · rcases List.mem_append.mp hn with hn | hn
        · rcases List.mem_append.mp hn with hn | hn
          · exact .inl (mem1 n hn)
          · rw [List.mem_singleton.mp hn]
            exact .inr ⟨e0, by omega⟩
        · exact .inl (mem2 _ n hn)
    rw [decide_eq_false g1]
    refine iteF ?_
    dsimp only [tNext]
    refine seq_join (fun σ H' => σ = [some (.ref p), some (.ref l), some (.int (i : Nat)), some (.int e), some (.int g)] ∧ H' = H3) ?_ ?_
    · intro N hN
      refine ⟨_, rfl, rfl, _, rfl, ?_⟩
      dsimp only
      rw [eqd]
      by_cases g2 : g = 2
      rotate_left
      · rw [decide_eq_false g2]
        exact iteF (iteF (hN _ _ ⟨rfl, rfl⟩))
      rw [decide_eq_true g2]
      refine iteT ⟨_, rfl, l, _, rfl, .inl (SqL.mk h3), _, _, rfl, rfl, _, rfl, ?_⟩
      rw [len]
      by_cases l1 : (1 : Int) < ((ns.length : Nat) : Int)
      rotate_left
      · rw [decide_eq_false l1]
        exact iteF (hN _ _ ⟨rfl, rfl⟩)
      rw [decide_eq_true l1]
      refine iteT ⟨_, rfl, _, rfl, _, rfl, l, _, rfl, SqL.mk h3, fun p1 hp1 => ?_⟩
      have s1 := same_new (o := .lst (cutV (ns.map V.int) none (some (i : Int)))) hp1
      have ec : cutV (ns.map V.int) (some ((i : Nat) + 1)) none = (ns.map V.int).drop (i + 1) := cut_hi _ (i + 1)
      refine ⟨_, rfl, _, rfl, _, _, rfl, rfl, _, rfl, l, _, rfl, SqL.mk (s1 _ _ h3), fun p2 hp2 => ?_⟩
      rw [ec, cut_lo] at *
      have s2 := same_new (o := .lst ((ns.map V.int).drop (i + 1))) hp2
      refine ⟨p1, p2, _, _, rfl, rfl, s2 _ _ upd_same, upd_same, ?_, fun p3 hp3 => ?_⟩
      · rw [List.length_take, List.length_drop, len, sizeLine_eq]
        omega
      refine cut (ns.take i ++ ns.drop (i + 1)) _ _ _ (by simp) (cn.of ?_ ?_ fun n hn => ?_) (s1.trans s2) hp3
      · intro z
        have := congrArg List.length z
        rw [List.length_append, List.length_take, List.length_drop] at this
        have h2 : min i ns.length + (ns.length - (i + 1)) = 0 := this
        omega
      · rw [List.length_append, List.length_take, List.length_drop]
        omega
      · rcases List.mem_append.mp hn with hn | hn
        · exact .inl (mem1 n hn)
        · exact .inl (mem2 _ n hn)
    rintro σ H' ⟨rfl, rfl⟩
    refine seq_join (fun σ H1 => σ = [some (.ref p), some (.ref l), some (.int (i : Nat)), some (.int e), some (.int g)] ∧ H1 = H') ?_ ?_
    · intro N hN
      refine ⟨_, rfl, rfl, _, rfl, ?_⟩
      rw [eqd]
      by_cases g3 : g = 3
      rotate_left
      · rw [decide_eq_false g3]
        exact iteF (hN _ _ ⟨rfl, rfl⟩)
      rw [decide_eq_true g3]
      refine iteT ⟨_, rfl, _, rfl, by show 1 ≤ sizeLine; decide, fun p1 hp1 => ?_⟩
      obtain ⟨wn, sn, hn1⟩ := w3.new (same_new (o := .lst [.int e]) hp1) hp1 upd_same
      refine ⟨_, rfl, p, 3, _, rfl, wn, by decide, by decide, fun H5 c w5 c0 c1 => ⟨_, _, rfl, rfl, ?_⟩⟩
      have z1 := w5.s _ _ hn1
      have h5 := w5.s _ _ (sn _ _ hl)
      have w5' := w5.weak sn
      refine ⟨p1, _, _, rfl, rfl, z1, by omega, by omega, by rw [List.length_singleton, sizeLine_eq]; omega, fun p2 hp2 => ?_⟩
      have s2 := same_new (o := .lst (List.replicate (1 + c).toNat [V.int e]).flatten) hp2
      refine ⟨l, p2, _, _, rfl, rfl, s2 _ _ h5, upd_same, ?_, fun p3 hp3 => ?_⟩
      · rw [len, List.flatten_replicate_singleton, List.length_replicate, sizeLine_eq]
        omega
      have ee : ns.map V.int ++ (List.replicate (1 + c).toNat [V.int e]).flatten = (ns ++ List.replicate (1 + c).toNat e).map V.int := by
        rw [List.flatten_replicate_singleton, List.map_append, List.map_replicate]
      rw [ee]
      have c2 : Cn (b + 3) (ns ++ List.replicate (1 + c).toNat e) := cn.of (by simp [cn.ne]) (by rw [List.length_append, List.length_replicate]; omega) fun n hn => (List.mem_append.mp hn).elim .inl fun hn => by
        rw [(List.mem_replicate.mp hn).2]
        exact .inr ⟨e0, by omega⟩
      obtain ⟨w6, s6, h6⟩ := w5'.new (s2.trans (same_new (o := .lst ((ns ++ List.replicate (1 + c).toNat e).map V.int)) hp3)) (s2.free hp3) upd_same
      exact q _ _ _ s6 w6 ⟨p3, _, rfl, h6, c2⟩
    rintro σ H1 ⟨rfl, rfl⟩
    refine ⟨_, rfl, rfl, _, rfl, ?_⟩
    rw [eqd]
    by_cases g4 : g = 4
    · rw [decide_eq_true g4]
      refine iteT ⟨_, rfl, l, _, rfl, SqL.mk h3, fun L hL => ?_⟩
      exact cut ns.reverse _ _ _ (by simp) (cn.of (fun z => cn.ne (List.reverse_eq_nil_iff.mp z)) (by rw [List.length_reverse]; omega) fun n hn => .inl (List.mem_reverse.mp hn)) (Same.refl _) hL
    · rw [decide_eq_false g4]
      refine iteF ⟨_, rfl, l, _, rfl, SqL.mk h3, by omega, fun ms L pm _ hL => ?_⟩
      exact fin ms _ _ (cn.of (fun z => cn.ne (by rw [z] at pm; exact pm.symm.eq_nil)) (by rw [pm.length_eq]; omega) fun n hn => .inl (pm.mem_iff.mp hn)) (Same.refl _) hL
end
end G0

namespace G0
open PySem PySem.Spec PyProof.Rows L2
abbrev s_val : Stmt := top 23
theorem fine_bb (a b : Bool) : Fine (.list [.bool a, .bool b]) :=
  .lst (dep := 0) (.cons (s1 := 5) rfl rfl (Nat.le_refl _) (Nat.le_refl _) (.cons (s1 := 5) rfl rfl (Nat.le_refl _) (Nat.le_refl _) (.nil (sz := 0)))) (by decide) (by decide)
def optD : Option Nat → PyData
  | none => .none
  | some i => .int (i : Nat)
theorem optD_dp {K : PySem.W.Frag} {H : Hp} : ∀ o : Option Nat, Dp K H (optV o) (optD o)
  | none => .non
  | some i => .int _
theorem fine_opt {o : Option Nat} (h : ∀ i, o = some i → i < 1000000) : Fine (.list [optD o, optD o]) := by
  have one : (optD o).showable = true ∧ (optD o).hasDict = false ∧ (optD o).depth ≤ 0 ∧ szD (optD o) ≤ 1930 := by
    cases o with
    | none => exact ⟨rfl, rfl, Nat.le_refl _, by show 5 ≤ 1930; decide⟩
    | some i =>
      have := h i rfl
      refine ⟨decide_eq_true (small_log ?_), rfl, Nat.le_refl _, Nat.le_refl _⟩
      have e : ((i : Nat) : Int).natAbs = i := Int.natAbs_natCast i
      rw [e]
      exact Nat.lt_trans this (by decide +kernel)
  exact .lst (dep := 0) (.cons one.1 one.2.1 one.2.2.1 one.2.2.2 (.cons one.1 one.2.1 one.2.2.1 one.2.2.2 (.nil (sz := 0)))) (by decide) (by decide)
theorem rowB_ints {ns : List Int} {b : Nat} (c : Cn b ns) : AV.isRowB (.seq (ns.map AV.int)) = (ff ns).isNone := by
  show (decide (0 < (ns.map AV.int).length) && (ns.map AV.int).all AV.isCnt && (ff ((ns.map AV.int).map AV.num)).isNone) = _
  rw [cnt_ints c.lo, List.length_map, decide_eq_true (List.length_pos_iff.mpr c.ne), back_ints]
  rfl
theorem Cn.sm {b : Nat} {ns : List Int} (c : Cn b ns) : Sm ns := fun n hn => by
  have := c.lo n hn
  have := c.hi n hn
  refine Nat.lt_trans (show n.natAbs < 1000 by omega) (by decide +kernel)
theorem sq_dp {K : PySem.W.Frag} {D : Hp} {a : Addr} {ns : List Int} {b : Nat} (c : Cn b ns) (b1 : b ≤ 5000) (h : Sq K D a (ns.map V.int)) : ∃ d, Fine d ∧ ∀ H, Same D H → Dp K H (.ref a) d := by
  have l := c.len
  rcases h with h | h
  · exact ⟨dLst ns, fine_lst c.sm (by omega), fun H e => dp_lst (e.seq h)⟩
  · exact ⟨dTup ns, fine_tup c.sm (by omega), fun H e => dp_tup (same_t e h)⟩
theorem ffGo_lt : ∀ (ns : List Int) (p : Nat) (a t : Int) (i : Nat), ffGo p a t ns = some i → i < p + ns.length
  | [], p, a, t, i, h => by cases h
  | n :: ns, p, a, t, i, h => by
    rw [ffGo] at h
    rw [List.length_cons]
    split at h
    · cases h
      omega
    · have := ffGo_lt ns _ _ _ _ h
      omega
section
variable {P : Program} {w : World} {K : PySem.W.Frag} {mg : Str → Option Value} {base : Heap}
def sp_val : Sp := fun vs H Q _ => ∃ (p l : Addr) (D : Hp) (ns : List Int), vs = [.ref p, .ref l] ∧ Wd p D H ∧ D l = some (.lst (ns.map V.int)) ∧ Cn 60 ns ∧ ∀ H', Wd p D H' → Q (.bl true) H'
theorem sc_val : FnScope ["_law_pot_here", "_law_numbers", "_law_given", "_law_kept", "_law_due", "_law_place"] ["_law_pot_here", "_law_numbers"] (defScope s_val) := ⟨rfl, rfl, rfl, by decide +kernel, rfl, by decide +kernel, by decide +kernel⟩
theorem ok_val {f f1 f2 f3 f4 f5 : Addr} {fd fd1 fd2 fd3 fd4 fd5 : FuncData} (F : Fun K "_law_value_right" "_law_value_right" s_val f fd) (B : Blt mg)
    (Dpass : Df K mg "_law_passed" s_passed ["_law_pot_here", "_law_numbers"] f1 fd1) (Gpass : FnOk P w K mg base CX0 2 f1 fd1 ["_law_pot_here", "_law_numbers"] (sp_passed K))
    (Dcan : Df K mg "_law_can" s_can ["_law_value"] f2 fd2) (Gcan : FnOk P w K mg base CX0 1 f2 fd2 ["_law_value"] (sp_can K))
    (Dlf : Df K mg "_law_fault" s_lfault ["_law_numbers"] f3 fd3) (Glf : FnOk P w K mg base CX0 2 f3 fd3 ["_law_numbers"] (sp_lfault K))
    (Drow : Df K mg "is_row" s_is_row ["value"] f4 fd4) (Grow : FnOk P w K mg base CX0 4 f4 fd4 ["value"] (sp_rowA K)) (Krow : KB fd4 ["value"] ["value"] 0)
    (Dfl : Df K mg "fault" s_fault ["value"] f5 fd5) (Gfl : FnOk P w K mg base CX0 4 f5 fd5 ["value"] (sp_fault K)) (Kfl : KB fd5 ["value"] ["value"] 0) :
    FnG P w K mg base 5 f fd ["_law_pot_here", "_law_numbers"] sp_val := by
  refine F.okG sc_val (fun vs H Q E h => ?_) (fun cdv A outer s H vs Q E gd hr h => ?_)
  · obtain ⟨p, l, D, ns, rfl, _⟩ := h
    rfl
  · obtain ⟨p, l, D, ns, rfl, wd, hl, cn, q⟩ := h
    have hu := hr.units
    have r1 : Room 1 _ := hr.mono (by decide)
    have r2 : Room 2 _ := hr.mono (by decide)
    refine ⟨_, pss_cons (ps_set (i := 2) sc_val.nd rfl (Or.inl rfl) (pdf Dpass Gpass r2 (pa_cons (pv 0) (pa_cons (pv 1) pa_nil))))
      (pss_cons (ps_par (i := 3) (j := 4) rfl sc_val.nd rfl rfl (by decide) rfl rfl (pa_cons (pe_callB (call_repr gd hu) (by rfl) B.repr boot_repr (pa_cons (pv 2) pa_nil)) (pa_cons (pdf Dcan Gcan r1 (pa_cons (pv 1) pa_nil)) pa_nil)) (by rfl))
      (pss_cons (ps_if (pt_cmpR op_ne (pe_callB (call_repr gd hu) (by rfl) B.repr boot_repr (pa_cons (pe_lst (pa_cons (pdf Drow Grow hr (pa_cons (pv 2) pa_nil)) (pa_cons (pe_callN (E := E0) Grow hr (by rfl) Drow.g Drow.F.kp Krow (pk_cons (pv 2) pk_nil)) pa_nil))) pa_nil)) (pe_callB (call_repr gd hu) (by rfl) B.repr boot_repr (pa_cons (pe_lst (pa_cons (pv 4) (pa_cons (pv 4) pa_nil))) pa_nil)) (nomark _)) (pss_one (ps_ret pe_bl)) pss_nil)
      (pss_cons (ps_set (i := 5) sc_val.nd rfl (Or.inl rfl) (pdf Dlf Glf r2 (pa_cons (pv 1) pa_nil)))
      (pss_cons (ps_if (PW.pt (pw_or (pt_cmpR op_ne (pe_callB (call_repr gd hu) (by rfl) B.repr boot_repr (pa_cons (pe_lst (pa_cons (pdf Dfl Gfl hr (pa_cons (pv 2) pa_nil)) (pa_cons (pe_callN (E := E0) Gfl hr (by rfl) Dfl.g Dfl.F.kp Kfl (pk_cons (pv 2) pk_nil)) pa_nil))) pa_nil)) (pe_callB (call_repr gd hu) (by rfl) B.repr boot_repr (pa_cons (pe_lst (pa_cons (pv 5) (pa_cons (pv 5) pa_nil))) pa_nil)) (nomark _)) (pw_or1 (pt_cmpR op_ne (pe_cmpR op_isN (pv 5) pe_non (nomark _)) (pv 4) (nomark _))))) (pss_one (ps_ret pe_bl)) pss_nil)
      (pss_one (ps_ret (pe_cmpR op_eq (pe_callB (call_repr gd hu) (by rfl) B.repr boot_repr (pa_cons (pv 2) pa_nil)) (pv 3) (nomark _)))))))), ?_⟩
    have len : (ns.map V.int).length = ns.length := List.length_map ..
    have lb := cn.len
    refine ⟨_, rfl, _, rfl, p, l, D, _, rfl, wd, SqL.mk hl, fun v D' H1 sD w1 hv => ?_⟩
    obtain ⟨g, rfl, hg, g0⟩ := hv
    obtain ⟨d, fd1, dp⟩ := sq_dp cn (by decide) hg
    have hgA : ∀ H', Same D' H' → AVal K H' (.ref g) (.seq (ns.map AV.int)) := fun H' s' => av_ints (hg.same s')
    have small : ∀ xs, AV.seq (ns.map AV.int) = .seq xs → xs.length < 1000000 := fun xs e => by
      cases e
      rw [List.length_map]
      omega
    have hl1 := w1.s _ _ (sD _ _ hl)
    refine ⟨_, rfl, g, d, rfl, dp _ w1.s, fd1, _, rfl, l, ns, rfl, SqL.mk hl1, fun H2 b s2 hb => ⟨_, _, rfl, ?_⟩⟩
    obtain rfl : b = (ff ns).isNone := by
      rw [Bool.eq_iff_iff, hb, can_iff cn.ne]
      cases ff ns <;> simp
    have w2 := w1.pure s2
    clear hb
    -- is_row
    refine ⟨_, rfl, _, _, rfl, hgA _ w2.s, small, fun H3 s3 => ?_⟩
    have w3 := w2.pure s3
    refine ⟨_, rfl, rfl, _, _, rfl, hgA _ w3.s, small, fun H4 s4 => ?_⟩
    have w4 := w3.pure s4
    rw [rowB_ints cn]
    refine ⟨by show 2 ≤ sizeLine; decide, fun a ha => ?_⟩
    have s5 := same_new (o := .lst [.bl (ff ns).isNone, .bl (ff ns).isNone]) ha
    refine ⟨a, .list [.bool (ff ns).isNone, .bool (ff ns).isNone], rfl, .lst (SqL.mk upd_same) (.cons (.bl _) (.cons (.bl _) .nil)), fine_bb _ _, ?_⟩
    have w5 := w4.pure s5
    refine ⟨_, rfl, _, rfl, by show 2 ≤ sizeLine; decide, fun a2 ha2 => ?_⟩
    refine ⟨a2, .list [.bool (ff ns).isNone, .bool (ff ns).isNone], rfl, .lst (SqL.mk upd_same) (.cons (.bl _) (.cons (.bl _) .nil)), fine_bb _ _, ?_⟩
    have w6 := w5.pure (same_new (o := .lst [.bl (ff ns).isNone, .bl (ff ns).isNone]) ha2)
    revert w6
    generalize (upd (upd H4 a (.lst [.bl (ff ns).isNone, .bl (ff ns).isNone])) a2 (.lst [.bl (ff ns).isNone, .bl (ff ns).isNone])) = H6
    intro w6
    clear w2 w3 w4 w5
    have ebf : ∀ x : V, (!decide (x = x)) = false := fun x => by simp
    refine ⟨rfl, _, rfl, ?_⟩
    dsimp only
    rw [ebf]
    refine iteF ?_
    dsimp only [tNext]
    have hl6 := w6.s _ _ (sD _ _ hl)
    refine ⟨_, rfl, l, ns, rfl, SqL.mk hl6, by omega, fun H7 s7 => ?_⟩
    have w7 := w6.pure s7
    -- fault
    refine ⟨_, rfl, g, ns, rfl, hg.same w7.s, cn.ne, cn.lo, by omega, fun H8 s8 => ?_⟩
    have w8 := w7.pure s8
    refine ⟨_, rfl, rfl, g, ns, rfl, hg.same w8.s, cn.ne, cn.lo, by omega, fun H9 s9 => ?_⟩
    have w9 := w8.pure s9
    refine ⟨by show 2 ≤ sizeLine; decide, fun b hb => ?_⟩
    have fo : Fine (.list [optD (ff ns), optD (ff ns)]) := fine_opt fun i e => by
      have := ffGo_lt ns 0 0 0 i e
      omega
    refine ⟨b, .list [optD (ff ns), optD (ff ns)], rfl, .lst (SqL.mk upd_same) (.cons (optD_dp _) (.cons (optD_dp _) .nil)), fo, ?_⟩
    have w10 := w9.pure (same_new (o := .lst [optV (ff ns), optV (ff ns)]) hb)
    refine ⟨_, rfl, _, rfl, by show 2 ≤ sizeLine; decide, fun b2 hb2 => ?_⟩
    refine ⟨b2, .list [optD (ff ns), optD (ff ns)], rfl, .lst (SqL.mk upd_same) (.cons (optD_dp _) (.cons (optD_dp _) .nil)), fo, ?_⟩
    have w11 := w10.pure (same_new (o := .lst [optV (ff ns), optV (ff ns)]) hb2)
    revert w11
    generalize (upd (upd H9 b (.lst [optV (ff ns), optV (ff ns)])) b2 (.lst [optV (ff ns), optV (ff ns)])) = H10
    intro w11
    refine ⟨rfl, _, rfl, ?_⟩
    dsimp only
    rw [ebf]
    refine iteF ⟨_, rfl, rfl, _, rfl, rfl, _, rfl, ?_⟩
    rw [optV_non]
    rw [ebf]
    refine iteF ⟨_, rfl, g, d, rfl, dp _ w11.s, fd1, _, rfl, rfl, ?_⟩
    dsimp only
    rw [decide_eq_true rfl]
    exact q _ (w11.weak sD)
end
end G0

namespace G0
open PySem PySem.Spec PyProof.Rows L2
abbrev s_odd : Stmt := top 24
/-- str of data -/
theorem cr_strD {X : Cx} (gd : X.A.guards = some []) (hu : X.A.units + 64 < cLine) : CallR X (.type "str") (fun xs H Q => ∃ (a : Addr) (d : PyData), xs = [.ref a] ∧ Dp X.K H (.ref a) d ∧ Fine d ∧ Q (.str d.shown) H) := by
  intro pn s σ H xs us Q J rv h
  obtain ⟨a, d, rfl, dp, f, q⟩ := h
  obtain ⟨u, rfl, ru⟩ := vals1 rv
  cases ru
  obtain ⟨as, rd⟩ := Dp.reads J d _ _ dp rfl
  have := f.dep
  refine str_of_reads rd f.sh (fun e => ?_) gd (by omega) (fun _ _ e => e) (fun h2 u2 tk keep => ?_) f.fit
  · rw [f.nd] at e
    cases e
  · exact ⟨.str d.shown, H, J.kept keep, ⟨_, rfl⟩, q⟩
section
variable {K : PySem.W.Frag} {H : Hp}
theorem av_non : AVal K H .non .other := .other (t := .type "NoneType") (i := false) (b := false) (.base .non) (kit_ty (by decide +kernel)) (kit_ty (by decide +kernel)) rfl (kit_ty (by decide +kernel)) (kit_ty (by decide +kernel))
theorem av_bl (b : Bool) : AVal K H (.bl b) .other := .other (t := .type "bool") (i := true) (b := true) (.base (.bl b)) (kit_ty (by decide +kernel)) (kit_ty (by decide +kernel)) rfl (kit_ty (by decide +kernel)) (kit_ty (by decide +kernel))
theorem av_str (z : Str) : AVal K H (.str z) .other := .other (t := .type "str") (i := false) (b := false) (.base (.str z)) (kit_ty (by decide +kernel)) (kit_ty (by decide +kernel)) rfl (kit_ty (by decide +kernel)) (kit_ty (by decide +kernel))
theorem av_dk {a : Addr} {es : List (Key × V)} (h : H a = some (.dK es)) : AVal K H (.ref a) .other := .other (t := .type "dict") (i := false) (b := false) (.base (.dK h)) (kit_ty (by decide +kernel)) (kit_ty (by decide +kernel)) rfl (kit_ty (by decide +kernel)) (kit_ty (by decide +kernel))
end
/-- what is no row -/
def NoRow (K : PySem.W.Frag) (H : Hp) (v : V) : Prop := ∃ x, AVal K H v x ∧ x.isRowB = false ∧ ∀ xs, x = .seq xs → xs.length < 1000000
/-- what is no count -/
def NoCnt (K : PySem.W.Frag) (H : Hp) (v : V) : Prop := ∃ x, AVal K H v x ∧ x.isCnt = false
theorem NoRow.same {K : PySem.W.Frag} {H H' : Hp} {v : V} (e : Same H H') : NoRow K H v → NoRow K H' v := fun ⟨x, h1, h2, h3⟩ => ⟨x, h1.same e, h2, h3⟩
theorem NoCnt.same {K : PySem.W.Frag} {H H' : Hp} {v : V} (e : Same H H') : NoCnt K H v → NoCnt K H' v := fun ⟨x, h1, h2⟩ => ⟨x, h1.same e, h2⟩
theorem norow_other {K : PySem.W.Frag} {H : Hp} {v : V} (h : AVal K H v .other) : NoRow K H v := ⟨_, h, rfl, fun _ z => nomatch z⟩
theorem nocnt_other {K : PySem.W.Frag} {H : Hp} {v : V} (h : AVal K H v .other) : NoCnt K H v := ⟨_, h, rfl⟩
theorem avals_app {K : PySem.W.Frag} {H : Hp} : ∀ {us vs : List V} {xs ys : List AV}, AVals K H us xs → AVals K H vs ys → AVals K H (us ++ vs) (xs ++ ys)
  | _, _, _, _, .nil, h => h
  | _, _, _, _, .cons h hs, h2 => .cons h (avals_app hs h2)
/-- numbers, and one thing among them that is no count -/
theorem norow_mix {K : PySem.W.Frag} {H : Hp} {a : Addr} {ns ms : List Int} {v : V} (h : Sq K H a (ns.map V.int ++ [v] ++ ms.map V.int)) (c : NoCnt K H v) (l : ns.length + ms.length < 1000) : NoRow K H (.ref a) := by
  obtain ⟨x, hx, nx⟩ := c
  refine ⟨_, .seq h (avals_app (avals_app (avals_ints ns) (.cons hx .nil)) (avals_ints ms)), ?_, fun xs e => ?_⟩
  · have e : (ns.map AV.int ++ [x] ++ ms.map AV.int).all AV.isCnt = false := by
      rw [List.all_append, List.all_append, List.all_cons, nx]
      simp
    show (decide (0 < (ns.map AV.int ++ [x] ++ ms.map AV.int).length) && (ns.map AV.int ++ [x] ++ ms.map AV.int).all AV.isCnt && _) = false
    rw [e]
    simp
  · cases e
    rw [List.length_append, List.length_append, List.length_map, List.length_map, List.length_singleton]
    omega
section
variable {P : Program} {w : World} {K : PySem.W.Frag} {mg : Str → Option Value} {base : Heap}
def sp_odd : Sp := fun vs H Q _ => ∃ (p l : Addr) (D : Hp) (ns : List Int), vs = [.ref p, .ref l] ∧ Wd p D H ∧ D l = some (.lst (ns.map V.int)) ∧ ns ≠ [] ∧ ff ns = none ∧ ∀ H', Wd p D H' → Q (.bl true) H'
theorem sc_odd : FnScope ["_law_pot_here", "_law_numbers", "_law_at", "_law_odd", "_law_values", "_law_place", "_law_number", "_law_value"] ["_law_pot_here", "_law_numbers"] (defScope s_odd) := ⟨rfl, rfl, rfl, by decide +kernel, rfl, by decide +kernel, by decide +kernel⟩
theorem ok_odd {f f1 f2 : Addr} {fd fd1 fd2 : FuncData} (F : Fun K "_law_odds_right" "_law_odds_right" s_odd f fd) (B : Blt mg)
    (Ddraw : Df K mg "_law_draw" s_draw ["_law_pot_here", "_law_size"] f1 fd1) (Gdraw : FnOk P w K mg base CX0 1 f1 fd1 ["_law_pot_here", "_law_size"] sp_draw)
    (Drow : Df K mg "is_row" s_is_row ["value"] f2 fd2) (Grow : FnOk P w K mg base CX0 4 f2 fd2 ["value"] (sp_rowA K)) :
    FnG P w K mg base 5 f fd ["_law_pot_here", "_law_numbers"] sp_odd := by
  refine F.okG sc_odd (fun vs H Q E h => ?_) (fun cdv A outer s H vs Q E gd hr h => ?_)
  · obtain ⟨p, l, D, ns, rfl, _⟩ := h
    rfl
  · obtain ⟨p, l, D, ns, rfl, wd, hl, ne, hf, q⟩ := h
    have hu := hr.units
    have r1 : Room 1 _ := hr.mono (by decide)
    refine ⟨_, pss_cons (ps_set (i := 2) sc_odd.nd rfl (Or.inl rfl) (pdf Ddraw Gdraw r1 (pa_cons (pv 0) (pa_cons (pe_callB call_len_seq (by rfl) B.len PySem.boot_len (pa_cons (pv 1) pa_nil)) pa_nil))))
      (pss_cons (ps_for PassesOwn.never rfl (pi_list (pe_lst (pa_cons pe_non (pa_cons pe_str (pa_cons (pe_ifExp (pt_cmpR op_eq (pe_ix ix_list (pv 1) (pv 2) (fun _ _ => rfl)) pe_int (nomark _)) pe_bl pe_bl) (pa_cons (pe_lst (pa_cons (pe_ix ix_list (pv 1) (pv 2) (fun _ _ => rfl)) pa_nil)) (pa_cons (pe_op op_sub pe_int (pe_ix ix_list (pv 1) (pv 2) (fun _ _ => rfl))) (pa_cons (pe_tup (pa_cons pe_int (pa_cons pe_int pa_nil))) pa_nil)))))))) (pg_name (i := 3) sc_odd.nd rfl (Or.inl rfl)) (pss_one (ps_if (pt_cmpR op_notBl (pdf Drow Grow hr (pa_cons (pe_op op_cat (pe_op op_cat (pe_slice sl_list (pv 1) po_none (po_some (pv 2))) (pe_lst (pa_cons (pv 3) pa_nil))) (pe_slice sl_list (pv 1) (po_some (pe_op op_add (pv 2) pe_int)) po_none)) pa_nil)) pe_bl (nomark _)) (pss_one (ps_ret pe_bl)) pss_nil)))
      (pss_cons (ps_set (i := 4) sc_odd.nd rfl (Or.inl rfl) (pe_lst (pa_cons pe_non (pa_cons pe_bl (pa_cons pe_int (pa_cons pe_str (pa_cons pe_dnewK (pa_cons (pe_callTy (call_dictP rfl) (by rfl) B.dict boot_tdict (pa_cons (pe_lc (own := [("_law_place", 5), ("_law_number", 6)]) (g := (gTup K 2 (gCons (gName 5) (gCons (gName 6) gNil)))) (tt := tYes) rfl sc_odd.nd (pi_E true (by rfl) B.enumerate (pa_cons (pv 1) pa_nil)) (blkOk_by (N := ["_law_pot_here", "_law_numbers", "_law_at", "_law_odd", "_law_values", "_law_place", "_law_number", "_law_value"]) (sc := defScope s_odd) (by decide +kernel)) (fun _ _ _ _ _ => pg_tup rfl (pgs_cons (pg_name (i := 5) sc_odd.nd rfl (Or.inl rfl)) (pgs_cons (pg_name (i := 6) sc_odd.nd rfl (Or.inl rfl)) pgs_nil))) (fun _ _ _ _ _ => pts_nil) (fun _ _ _ _ _ => (pe_tup (pa_cons (pv 5) (pa_cons (pv 6) pa_nil))))) pa_nil)) (pa_cons (pe_tup pa_nil) (pa_cons (pe_lst pa_nil) (pa_cons (pe_lst (pa_cons (pv 1) pa_nil)) (pa_cons (pe_callTy (cr_strD gd hu) (by rfl) B.str boot_tstr (pa_cons (pv 1) pa_nil)) pa_nil))))))))))))
      (pss_one (ps_ret (pe_cmpR (op_eqD hu) (pe_lc (own := [("_law_value", 7)]) (g := gName 7) rfl sc_odd.nd (pi_list (pv 4)) (blkOk_by (N := ["_law_pot_here", "_law_numbers", "_law_at", "_law_odd", "_law_values", "_law_place", "_law_number", "_law_value"]) (sc := defScope s_odd) (by decide +kernel)) (fun _ _ _ _ _ => pg_name (i := 7) sc_odd.nd rfl (Or.inl rfl)) (fun _ _ _ _ _ => pts_one (pt_cmpR op_notBl (pdf Drow Grow hr (pa_cons (pv 7) pa_nil)) pe_bl (nomark _))) (fun _ _ _ _ _ => (pv 7))) (pe_lst pa_nil) (nomark _)))))), ?_⟩
    have len : (ns.map V.int).length = ns.length := List.length_map ..
    have r := (row_iff ns).mpr hf
    have lp : 0 < ns.length := List.length_pos_iff.mpr ne
    have l9 := r.len
    have hlH := wd.s _ _ hl
    refine ⟨_, rfl, _, rfl, l, _, rfl, .inl (SqL.mk hlH), p, _, D, rfl, wd, by rw [len]; omega, by rw [len]; omega, fun H1 d w1 d0 d1 => ?_⟩
    rw [len] at d1
    obtain ⟨i, rfl⟩ := Int.eq_ofNat_of_zero_le d0
    have hi : i < ns.length := by omega
    have hl1 := w1.s _ _ hl
    have hn : (ns.map V.int)[i]? = some (.int ns[i]) := by rw [List.getElem?_map, List.getElem?_eq_getElem hi]; rfl
    have n0 : 0 < ns[i] := r.pos _ (List.getElem_mem hi)
    revert hn n0
    generalize ns[i] = n
    intro hn n0
    have atn : atI (ns.map V.int) (i : Nat) = some (.int n) := atI_nat hn
    refine ⟨_, rfl, _, rfl, l, _, _, _, rfl, rfl, SqL.mk hl1, atn, rfl, _, rfl, ?_⟩
    refine if_te (fun v H' => v = .bl (decide (V.int n = V.int 1)) ∧ H' = H1) (fun e R r => r _ _ ⟨by rw [e], rfl⟩) (fun e R r => r _ _ ⟨by rw [e], rfl⟩) ?_
    rintro v H' ⟨rfl, rfl⟩
    generalize decide (V.int n = V.int 1) = b1
    refine ⟨_, rfl, _, rfl, l, _, _, _, rfl, rfl, SqL.mk hl1, atn, by show 1 ≤ sizeLine; decide, fun a4 h4 => ?_⟩
    have s1 := same_new (o := .lst [.int n]) h4
    have z1 : (upd H' a4 (.lst [.int n])) a4 = some (.lst [.int n]) := upd_same
    revert s1 z1
    generalize upd H' a4 (.lst [.int n]) = H2
    intro s1 z1
    refine ⟨_, rfl, _, rfl, l, _, _, _, rfl, rfl, SqL.mk (s1 _ _ hl1), atn, _, _, rfl, rfl, ?_⟩
    refine ⟨by show 2 ≤ sizeLine; decide, fun a6 h6 => ?_⟩
    have s2 := same_new (o := .tup [.int 1, .int 2]) h6
    have z2 : (upd H2 a6 (.tup [.int 1, .int 2])) a6 = some (.tup [.int 1, .int 2]) := upd_same
    revert s2 z2
    generalize upd H2 a6 (.tup [.int 1, .int 2]) = H3
    intro s2 z2
    refine ⟨by show 6 ≤ sizeLine; decide, fun L hL => ?_⟩
    have s3 := same_new (o := .lst [.non, .str "1", .bl b1, .ref a4, .int (0 - n), .ref a6]) hL
    have z3 : (upd H3 L (.lst [.non, .str "1", .bl b1, .ref a4, .int (0 - n), .ref a6])) L = some (.lst [.non, .str "1", .bl b1, .ref a4, .int (0 - n), .ref a6]) := upd_same
    revert s3 z3
    generalize upd H3 L (.lst [.non, .str "1", .bl b1, .ref a4, .int (0 - n), .ref a6]) = H4
    intro s3 z3
    have w4 := ((w1.pure s1).pure s2).pure s3
    have hodd : ∀ x ∈ [V.non, .str "1", .bl b1, .ref a4, .int (0 - n), .ref a6], NoCnt K H4 x := by
      intro x hx
      simp only [List.mem_cons, List.not_mem_nil, or_false] at hx
      rcases hx with rfl | rfl | rfl | rfl | rfl | rfl
      · exact nocnt_other av_non
      · exact nocnt_other (av_str _)
      · exact nocnt_other (av_bl _)
      · exact ⟨_, .seq (.inl (SqL.mk (s3 _ _ (s2 _ _ z1)))) (avals_ints [n]), rfl⟩
      · exact ⟨_, .int _, decide_eq_false (by omega)⟩
      · exact ⟨_, .seq (.inr (SqT.mk (s3 _ _ z2))) (avals_ints [1, 2]), rfl⟩
    have hl4 := w4.s _ _ hl
    clear s1 s2 s3 z1 z2 w1 hlH
    refine ⟨L, rfl, ⟨_, SqL.mk z3⟩, for_list (xs := [V.non, .str "1", .bl b1, .ref a4, .int (0 - n), .ref a6]) (fun k σ H5 => ∃ y, σ = [some (.ref p), some (.ref l), some (.int (i : Nat)), y, none, none, none, none] ∧ Same H4 H5) ⟨none, rfl, Same.refl _⟩ (fun k σ H5 _ h => ?_) (fun k x σ H5 hx h => ?_) (fun σ H5 h => ?_)⟩
    · obtain ⟨y, rfl, s5⟩ := h
      exact SqL.mk (s5 _ _ z3)
    · obtain ⟨y, rfl, s5⟩ := h
      refine mix3 (i := i) (j := i + 1) (v := x) (fun H R r => ⟨_, rfl, r⟩) (fun H R r => ⟨_, rfl, r⟩) (fun H R r => ⟨_, rfl, r⟩) (fun H R r => ⟨_, rfl, _, _, rfl, rfl, r⟩) (s5 _ _ hl4) (by rw [len]; omega) fun H6 M s6 hM => ?_
      have s7 := s6.trans (same_new (o := .lst ((ns.map V.int).take i ++ [x] ++ (ns.map V.int).drop (i + 1))) hM)
      obtain ⟨y, av, nr, sm⟩ := norow_mix (K := K) (H := upd H6 M (.lst ((ns.map V.int).take i ++ [x] ++ (ns.map V.int).drop (i + 1)))) (a := M) (ns := ns.take i) (ms := ns.drop (i + 1)) (v := x) (by rw [List.map_take, List.map_drop]; exact .inl (SqL.mk upd_same)) ((hodd x (List.mem_of_getElem? hx)).same (s5.trans s7)) (by rw [List.length_take, List.length_drop]; omega)
      refine ⟨_, y, rfl, av, sm, fun H8 s8 => ?_⟩
      rw [nr]
      refine ⟨_, _, rfl, rfl, _, rfl, iteF ⟨_, rfl, (s5.trans s7).trans s8⟩⟩
    · obtain ⟨y, rfl, s5⟩ := h
      have w5 := w4.pure s5
      revert w5
      clear hodd z3 hl4 w4 s5
      intro w5
      have hl5 := w5.s _ _ hl
      refine fun pd hpd => ?_
      have s1 := same_new (o := .dK []) hpd
      have z1 : (upd H5 pd (.dK [])) pd = some (.dK []) := upd_same
      revert s1 z1
      generalize upd H5 pd (.dK []) = H6
      intro s1 z1
      have hl6 := s1 _ _ hl5
      -- dict
      refine ⟨_, rfl, l, _, rfl, SqL.mk hl6, fun D2 hD2 => lc_it (walk_E (b := true) (xs := ns.map V.int)) (fun k H7 => Same H6 H7 ∧ ∃ (ps : List Addr) (kvs : List (Key × V)), H7 D2 = some (.lst (ps.map V.ref)) ∧ Paired (fun p kv => H7 p = some (.tup [kV kv.1, kv.2])) ps kvs ∧ ps.length = k) ⟨same_new hD2, [], [], upd_same, .nil, rfl⟩ (fun k H7 _ h => SqL.mk (h.1 _ _ hl6)) ?_ ?_⟩
      · rintro k u H7 H8 hk ⟨s7, ps, kvs, h7, pr, pl⟩ ⟨Tp, z1, z2, rfl, nT, rfl, ez1, ez2⟩
        cases ez1
        have sT : Same H7 (upd H7 Tp (.tup [.int (k : Nat), z2])) := same_new nT
        refine ⟨Tp, _, rfl, SqT.mk upd_same, rfl, _, _, rfl, _, _, rfl, rfl, rfl, yes_ite ?_⟩
        refine ⟨_, rfl, _, rfl, by show 2 ≤ sizeLine; decide, fun Tq hTq => ?_⟩
        have sQ := sT.trans (same_new (o := .tup [.int (k : Nat), z2]) hTq)
        rw [len] at hk
        refine ⟨_, sQ _ _ h7, by rw [List.length_map, sizeLine_eq]; omega, (s7.trans sQ).put hD2, ps ++ [Tq], kvs ++ [(.inl (k : Nat), z2)], ?_, ?_, by rw [List.length_append, pl]; rfl⟩
        · rw [upd_same, List.map_append]
          rfl
        · have nD : Tq ≠ D2 := (ne_of_none (sT _ _ h7) hTq).symm
          refine Paired.snoc (L2.Paired.mapP pr fun a b hab => ?_) ?_
          · have na : a ≠ D2 := fun e => by
              rw [e, h7] at hab
              cases hab
            rw [upd_ne na]
            exact sQ _ _ hab
          · rw [upd_ne nD]
            exact upd_same
      rintro H7 ⟨s7, ps, kvs, h7, pr, pl⟩
      refine ⟨D2, ps, kvs, rfl, SqL.mk h7, L2.Paired.mapP pr fun a b hab => SqT.mk hab, fun pd2 hpd2 => ?_⟩
      have s2 := same_new (o := .dK (mergeK [] kvs)) hpd2
      have z2 : (upd H7 pd2 (.dK (mergeK [] kvs))) pd2 = some (.dK (mergeK [] kvs)) := upd_same
      revert s2 z2
      generalize upd H7 pd2 (.dK (mergeK [] kvs)) = H8
      intro s2 z2
      refine ⟨by show 0 ≤ sizeLine; decide, fun p7 hp7 => ?_⟩
      have s3 := same_new (o := .tup []) hp7
      have z3 : (upd H8 p7 (.tup [])) p7 = some (.tup []) := upd_same
      revert s3 z3
      generalize upd H8 p7 (.tup []) = H9
      intro s3 z3
      refine ⟨by show 0 ≤ sizeLine; decide, fun p8 hp8 => ?_⟩
      have s4 := same_new (o := .lst []) hp8
      have z4 : (upd H9 p8 (.lst [])) p8 = some (.lst []) := upd_same
      revert s4 z4
      generalize upd H9 p8 (.lst []) = H10
      intro s4 z4
      refine ⟨_, rfl, by show 1 ≤ sizeLine; decide, fun p9 hp9 => ?_⟩
      have s5 := same_new (o := .lst [.ref l]) hp9
      have z5 : (upd H10 p9 (.lst [.ref l])) p9 = some (.lst [.ref l]) := upd_same
      revert s5 z5
      generalize upd H10 p9 (.lst [.ref l]) = H11
      intro s5 z5
      have sA := ((((s1.trans s7).trans s2).trans s3).trans s4).trans s5
      have cn := Cn.row ne hf
      refine ⟨_, rfl, l, dLst ns, rfl, dp_lst (SqL.mk (sA _ _ hl5)), fine_lst cn.sm (by omega), ?_⟩
      refine ⟨by show 10 ≤ sizeLine; decide, fun L2 hL2 => ?_⟩
      have vs : ∀ x ∈ [V.non, .bl true, .int 1, .str "1", .ref pd, .ref pd2, .ref p7, .ref p8, .ref p9, .str (dLst ns).shown], NoRow K H11 x := by
        intro x hx
        simp only [List.mem_cons, List.not_mem_nil, or_false] at hx
        rcases hx with rfl | rfl | rfl | rfl | rfl | rfl | rfl | rfl | rfl | rfl
        · exact norow_other av_non
        · exact norow_other (av_bl _)
        · exact ⟨_, .int _, rfl, fun _ z => nomatch z⟩
        · exact norow_other (av_str _)
        · exact norow_other (av_dk ((((s7.trans s2).trans s3).trans s4).trans s5 _ _ z1))
        · exact norow_other (av_dk (((s3.trans s4).trans s5) _ _ z2))
        · exact ⟨_, .seq (.inr (SqT.mk ((s4.trans s5) _ _ z3))) .nil, rfl, fun xs e => by cases e; decide⟩
        · exact ⟨_, .seq (.inl (SqL.mk (s5 _ _ z4))) .nil, rfl, fun xs e => by cases e; decide⟩
        · exact ⟨_, .seq (.inl (SqL.mk z5)) (.cons (av_ints (.inl (SqL.mk (sA _ _ hl5)))) .nil), rfl, fun xs e => by cases e; exact (show 1 < 1000000 by decide)⟩
        · exact norow_other (av_str _)
      have w11 := w5.pure sA
      revert vs w11
      clear sA s1 s2 s3 s4 s5 s7 z1 z2 z3 z4 z5 h7 pr
      generalize (dLst ns).shown = z
      intro vs w11
      have s12 := same_new (o := .lst [V.non, .bl true, .int 1, .str "1", .ref pd, .ref pd2, .ref p7, .ref p8, .ref p9, .str z]) hL2
      have z12 : (upd H11 L2 (.lst [V.non, .bl true, .int 1, .str "1", .ref pd, .ref pd2, .ref p7, .ref p8, .ref p9, .str z])) L2 = some (.lst [V.non, .bl true, .int 1, .str "1", .ref pd, .ref pd2, .ref p7, .ref p8, .ref p9, .str z]) := upd_same
      have w12 := w11.pure s12
      revert s12 z12 w12
      generalize (upd H11 L2 (.lst [V.non, .bl true, .int 1, .str "1", .ref pd, .ref pd2, .ref p7, .ref p8, .ref p9, .str z])) = H12
      intro s12 z12 w12
      have vs' : ∀ x ∈ [V.non, .bl true, .int 1, .str "1", .ref pd, .ref pd2, .ref p7, .ref p8, .ref p9, .str z], NoRow K H12 x := fun x hx => (vs x hx).same s12
      have vl : [V.non, .bl true, .int 1, .str "1", .ref pd, .ref pd2, .ref p7, .ref p8, .ref p9, .str z].length < sizeLine := show 10 < sizeLine by decide
      revert vs' z12 vl
      clear vs s12 w11
      generalize [V.non, .bl true, .int 1, .str "1", .ref pd, .ref pd2, .ref p7, .ref p8, .ref p9, .str z] = xs
      intro z12 vs vl
      refine ⟨_, rfl, L2, rfl, ⟨_, SqL.mk z12⟩, fun D3 hD3 => lcL (fun _ => none) (SqL.mk z12) vl hD3 (fun x hx H13 s13 G N nN gG => ⟨rfl, ?_⟩) fun H13 s13 h13 => ?_⟩
      · obtain ⟨u, av, nr, sm⟩ := (vs x hx).same s13
        refine ⟨_, rfl, x, u, rfl, av, sm, fun H14 s14 => ?_⟩
        rw [nr]
        exact ⟨_, _, rfl, rfl, _, rfl, iteF (nN rfl _ s14)⟩
      · have e0 : fm (fun _ => none) xs = [] := by
          unfold fm
          rw [List.filterMap_eq_nil_iff]
          exact fun _ _ => rfl
        rw [e0] at h13
        refine ⟨by show 0 ≤ sizeLine; decide, fun p3 hp3 => ?_⟩
        have s15 := same_new (o := .lst []) hp3
        exact ⟨.list [], .list [], .lst (SqL.mk (s15 _ _ h13)) .nil, .lst (SqL.mk upd_same) .nil, rfl, rfl, q _ ((w12.pure s13).pure s15)⟩
end
end G0

namespace G0
open PySem PySem.Spec PyProof.Rows L2
abbrev s_right : Stmt := top 25
abbrev s_law : Stmt := top 26
theorem slK {X : Cx} {K : PySem.W.Frag} (h : X.K = K) : SlR X (rSlL K) := by
  subst h
  exact sl_list
section
variable {P : Program} {w : World} {K : PySem.W.Frag} {mg : Str → Option Value} {base : Heap}
def sp_right : Sp := fun vs H Q _ => ∃ (p : Addr) (D : Hp), vs = [.ref p] ∧ Wd p D H ∧ ∀ H', Wd p D H' → Q (.bl true) H'
theorem sc_right : FnScope ["_law_pot_here", "_law_turn", "_law_numbers", "_law_at", "_law_bent_here", "_law_drawn"] ["_law_pot_here"] (defScope s_right) := ⟨rfl, rfl, rfl, by decide +kernel, rfl, by decide +kernel, by decide +kernel⟩
theorem ok_right {f f1 f2 f3 f4 f5 f6 f7 : Addr} {fd fd1 fd2 fd3 fd4 fd5 fd6 fd7 : FuncData} (F : Fun K "_law_right" "_law_right" s_right f fd) (B : Blt mg)
    (Ddraw : Df K mg "_law_draw" s_draw ["_law_pot_here", "_law_size"] f1 fd1) (Gdraw : FnOk P w K mg base CX0 1 f1 fd1 ["_law_pot_here", "_law_size"] sp_draw)
    (Dlrow : Df K mg "_law_row" s_lrow ["_law_pot_here", "_law_most"] f2 fd2) (Glrow : FnOk P w K mg base CX0 2 f2 fd2 ["_law_pot_here", "_law_most"] sp_lrow)
    (Dcan : Df K mg "_law_can" s_can ["_law_value"] f3 fd3) (Gcan : FnOk P w K mg base CX0 1 f3 fd3 ["_law_value"] (sp_can K))
    (Dbent : Df K mg "_law_bent" s_bent ["_law_pot_here", "_law_numbers"] f4 fd4) (Gbent : FnOk P w K mg base CX0 2 f4 fd4 ["_law_pot_here", "_law_numbers"] sp_bent)
    (Dval : Df K mg "_law_value_right" s_val ["_law_pot_here", "_law_numbers"] f5 fd5) (Gval : FnG P w K mg base 5 f5 fd5 ["_law_pot_here", "_law_numbers"] sp_val)
    (Dodd : Df K mg "_law_odds_right" s_odd ["_law_pot_here", "_law_numbers"] f6 fd6) (Godd : FnG P w K mg base 5 f6 fd6 ["_law_pot_here", "_law_numbers"] sp_odd)
    (Drow : Df K mg "is_row" s_is_row ["value"] f7 fd7) (Grow : FnOk P w K mg base CX0 4 f7 fd7 ["value"] (sp_rowA K)) :
    FnG P w K mg base 6 f fd ["_law_pot_here"] sp_right := by
  refine F.okG sc_right (fun vs H Q E h => ?_) (fun cdv A outer s H vs Q E gd hr h => ?_)
  · obtain ⟨p, D, rfl, _⟩ := h
    rfl
  · obtain ⟨p, D, rfl, wd, q⟩ := h
    have hu := hr.units
    have r1 : Room 1 _ := hr.mono (by decide)
    have r2 : Room 2 _ := hr.mono (by decide)
    have r4 : Room 4 _ := hr.mono (by decide)
    refine ⟨_, pss_cons (ps_for PassesOwn.never rfl (pi_range1 (by rfl) B.range (pa_cons pe_int pa_nil)) (pg_name (i := 1) sc_right.nd rfl (Or.inl rfl)) (pss_cons (ps_set (i := 2) sc_right.nd rfl (Or.inr rfl) (pdf Dlrow Glrow r2 (pa_cons (pv 0) (pa_cons pe_int pa_nil))))
        (pss_cons (ps_if (PW.pt (pw_or (pt_not (pt_val (pdf Dcan Gcan r1 (pa_cons (pv 2) pa_nil)))) (pw_or (pt_not (pt_val (pe_callG (E := E0) Gval gd hr (by rfl) Dval.g Dval.F.kp Dval.b .nil (pa_cons (pv 0) (pa_cons (pv 2) pa_nil))))) (pw_or1 (pt_not (pt_val (pe_callG (E := E0) Godd gd hr (by rfl) Dodd.g Dodd.F.kp Dodd.b .nil (pa_cons (pv 0) (pa_cons (pv 2) pa_nil))))))))) (pss_one (ps_ret pe_bl)) pss_nil)
        (pss_cons (ps_if (pt_cmpR (op_neD hu) (pe_lc (own := [("_law_at", 3)]) (g := gName 3) rfl sc_right.nd (pi_range1 (by rfl) B.range (pa_cons (pe_callB call_len_seq (by rfl) B.len PySem.boot_len (pa_cons (pv 2) pa_nil)) pa_nil)) (blkOk_by (N := ["_law_pot_here", "_law_turn", "_law_numbers", "_law_at", "_law_bent_here", "_law_drawn"]) (sc := defScope s_right) (by decide +kernel)) (fun _ _ _ _ _ => pg_name (i := 3) sc_right.nd rfl (Or.inl rfl)) (fun _ _ _ _ _ => pts_one (pt_cmpR op_notBl (pdf Drow Grow r4 (pa_cons (pe_slice (slK (K := K) rfl) (pv 2) po_none (po_some (pe_op op_add (pv 3) pe_int))) pa_nil)) pe_bl (nomark _))) (fun _ _ _ _ _ => (pv 3))) (pe_lst pa_nil) (nomark _)) (pss_one (ps_ret pe_bl)) pss_nil)
        (pss_cons (ps_set (i := 4) sc_right.nd rfl (Or.inl rfl) (pdf Dbent Gbent r2 (pa_cons (pv 0) (pa_cons (pv 2) pa_nil))))
        (pss_one (ps_if (PW.pt (pw_or (pt_not (pt_val (pe_callG (E := E0) Gval gd hr (by rfl) Dval.g Dval.F.kp Dval.b .nil (pa_cons (pv 0) (pa_cons (pv 4) pa_nil))))) (pw_or1 (pt_not (pt_val (pe_callG (E := E0) Gval gd hr (by rfl) Dval.g Dval.F.kp Dval.b .nil (pa_cons (pv 0) (pa_cons (pdf Dbent Gbent r2 (pa_cons (pv 0) (pa_cons (pv 4) pa_nil))) pa_nil)))))))) (pss_one (ps_ret pe_bl)) pss_nil)))))))
      (pss_cons (ps_set (i := 5) sc_right.nd rfl (Or.inl rfl) (pe_lst pa_nil))
      (pss_cons (ps_for PassesOwn.never rfl (pi_range1 (by rfl) B.range (pa_cons (pe_op op_add pe_int (pdf Ddraw Gdraw r1 (pa_cons (pv 0) (pa_cons pe_int pa_nil)))) pa_nil)) (pg_name (i := 1) sc_right.nd rfl (Or.inl rfl)) (pss_one (ps_expr (pe_bm PySem.F.plainAttrs_list PySem.F.slot_list_append PySem.F.type_list_append mt_append (pv 5) (pa_cons (pdf Ddraw Gdraw r1 (pa_cons (pv 0) (pa_cons pe_int pa_nil))) pa_nil)))))
      (pss_one (ps_ret (pe_and (pe_callG (E := E0) Gval gd hr (by rfl) Dval.g Dval.F.kp Dval.b .nil (pa_cons (pv 0) (pa_cons (pv 5) pa_nil))) (pe_and (pe_callG (E := E0) Gval gd hr (by rfl) Dval.g Dval.F.kp Dval.b .nil (pa_cons (pv 0) (pa_cons (pe_op op_cat (pe_lst (pa_cons pe_int pa_nil)) (pv 5)) pa_nil))) (pe_one (pe_callG (E := E0) Gval gd hr (by rfl) Dval.g Dval.F.kp Dval.b .nil (pa_cons (pv 0) (pa_cons (pe_op op_cat (pe_lst (pa_cons pe_int (pa_cons pe_int pa_nil))) (pe_revL (pe_callB cr_sorted (by rfl) B.sorted boot_sorted (pa_cons (pv 5) pa_nil)))) pa_nil)))))))))), ?_⟩
    refine ⟨3, rfl, by decide, by decide, for_range (n := 3) (fun i σ H' => ∃ y1 y2 y3 y4, σ = [some (.ref p), y1, y2, y3, y4, none] ∧ Wd p D H') ⟨none, none, none, none, rfl, wd⟩ ?_ ?_⟩
    · rintro i σ H1 hi ⟨y1, y2, y3, y4, rfl, w1⟩
      refine ⟨_, rfl, p, D, rfl, w1, fun v D2 H2 s2 w2 hv => ?_⟩
      obtain ⟨L, ns, rfl, hL, ne, hf⟩ := hv
      have cn := Cn.row ne hf
      have cm : ∀ {b : Nat} {ms : List Int}, Cn b ms → b ≤ 60 → Cn 60 ms := fun c h => ⟨c.ne, c.lo, c.hi, Nat.le_trans c.len h⟩
      have len : (ns.map V.int).length = ns.length := List.length_map ..
      have l9 := cn.len
      refine ⟨_, rfl, L, ns, rfl, SqL.mk (w2.s _ _ hL), fun H3 b s3 hb => ?_⟩
      obtain rfl : b = true := hb.mpr ((can_iff ne).mpr hf)
      refine ⟨true, rfl, iteF ⟨_, rfl, _, rfl, p, L, D2, ns, rfl, w2.pure s3, hL, cm cn (by decide), fun H4 w4 => ⟨true, rfl, iteF ?_⟩⟩⟩
      refine ⟨_, rfl, _, rfl, p, L, D2, ns, rfl, w4, hL, ne, hf, fun H5 w5 => ⟨true, rfl, iteF ?_⟩⟩
      have h5 := w5.s _ _ hL
      refine ⟨_, rfl, L, _, rfl, .inl (SqL.mk h5), _, rfl, by omega, by rw [len]; omega, fun D3 hD3 => lc_range (n := (((ns.map V.int).length : Nat) : Int).toNat) (fun k H6 => Same H5 H6 ∧ H6 D3 = some (.lst [])) ⟨same_new hD3, upd_same⟩ ?_ ?_⟩
      · rintro k H6 hk ⟨s6, h6⟩
        have e0 : (0 : Int) + (k : Nat) = (k : Nat) := by omega
        have hk : k < ns.length := by rw [len] at hk; omega
        rw [e0]
        refine ⟨rfl, _, rfl, _, rfl, _, _, rfl, rfl, _, rfl, L, _, rfl, SqL.mk (s6 _ _ h5), fun M hM => ?_⟩
        have ec : cutV (ns.map V.int) none (some ((k : Nat) + 1)) = (ns.take (k + 1)).map V.int := by
          have := cut_lo (ns.map V.int) (k + 1)
          rw [← List.map_take] at this
          exact this
        rw [ec]
        have s7 := same_new (o := .lst ((ns.take (k + 1)).map V.int)) hM
        have ct : Cn 9 (ns.take (k + 1)) := by
          refine cn.of (fun z => ?_) (by rw [List.length_take]; omega) fun n hn => .inl (List.mem_of_mem_take hn)
          have := congrArg List.length z
          rw [List.length_take] at this
          have h2 : min (k + 1) ns.length = 0 := this
          omega
        refine ⟨_, _, rfl, av_ints (.inl (SqL.mk upd_same)), fun xs e => ?_, fun H7 s8 => ?_⟩
        · cases e
          have := ct.len
          rw [List.length_map]
          omega
        rw [rowB_ints ct, ff_pre _ hf]
        exact ⟨_, _, rfl, rfl, _, rfl, iteF ⟨(s6.trans s7).trans s8, s8 _ _ (s7 _ _ h6)⟩⟩
      rintro H6 ⟨s6, h6⟩
      refine ⟨by show 0 ≤ sizeLine; decide, fun p3 hp3 => ?_⟩
      have s7 := same_new (o := .lst []) hp3
      refine ⟨.list [], .list [], .lst (SqL.mk (s7 _ _ h6)) .nil, .lst (SqL.mk upd_same) .nil, rfl, rfl, _, rfl, iteF ?_⟩
      have w7 := (w5.pure s6).pure s7
      refine ⟨_, rfl, _, rfl, p, L, D2, ns, 9, rfl, w7, hL, cn, by decide, fun v D4 H8 s8 w8 hv => ?_⟩
      obtain ⟨M, ms, rfl, hM, cM⟩ := hv
      refine ⟨_, rfl, _, rfl, p, M, D4, ms, rfl, w8, hM, cm cM (by decide), fun H9 w9 => ⟨true, rfl, iteF ?_⟩⟩
      refine ⟨_, rfl, _, rfl, _, rfl, p, M, D4, ms, 12, rfl, w9, hM, cM, by decide, fun v D5 H10 s10 w10 hv => ?_⟩
      obtain ⟨N, os, rfl, hN, cN⟩ := hv
      exact ⟨p, N, D5, os, rfl, w10, hN, cm cN (by decide), fun H11 w11 => ⟨true, rfl, iteF ⟨_, _, _, _, rfl, ((w11.weak s10).weak s8).weak s2⟩⟩⟩
    · rintro σ H1 ⟨y1, y2, y3, y4, rfl, w1⟩
      refine ⟨by show 0 ≤ sizeLine; decide, fun L hL => ?_⟩
      have L0 := w1.s.free hL
      have Lp := w1.ne hL
      obtain ⟨w2, s2, h2⟩ := w1.new (same_new (o := .lst []) hL) hL upd_same
      refine ⟨_, rfl, p, 10, _, rfl, w2, by decide, by decide, fun H3 d w3 d0 d1 => ⟨_, _, rfl, rfl, ?_⟩⟩
      refine ⟨_, rfl, by omega, by omega, for_range (n := (1 + d).toNat) (fun i σ H5 => ∃ (ms : List Int) (y1 y2 y3 y4 : Option V), σ = [some (.ref p), y1, y2, y3, y4, some (.ref L)] ∧ Wd p (upd D L (.lst (ms.map V.int))) H5 ∧ ms.length = i ∧ ∀ m ∈ ms, 0 ≤ m ∧ m < 1000) ⟨[], y1, y2, y3, y4, rfl, w3, rfl, fun m hm => by cases hm⟩ ?_ ?_⟩
      · rintro i σ H5 hi ⟨ms, y1, y2, y3, y4, rfl, w5, ml, mb⟩
        have hL5 : H5 L = some (.lst (ms.map V.int)) := w5.s _ _ upd_same
        refine ⟨_, rfl, .inl ⟨rfl, _, SqL.mk hL5⟩, _, rfl, p, 4, _, rfl, w5, by decide, by decide, fun H6 d3 w6 f0 f1 => ?_⟩
        have hL6 : H6 L = some (.lst (ms.map V.int)) := w6.s _ _ upd_same
        refine ⟨L, _, _, rfl, rfl, hL6, by rw [List.length_map, sizeLine_eq]; omega, ?_⟩
        refine ⟨ms ++ [d3], _, _, _, _, rfl, ?_, by simp [ml], fun m hm => ?_⟩
        · have e : (ms.map V.int) ++ [V.int d3] = ((ms ++ [d3]).map V.int) := by simp
          rw [e]
          exact (w6.put L0 Lp).got L0 Lp upd_same
        · rcases List.mem_append.mp hm with hm | hm
          · exact mb m hm
          · rw [List.mem_singleton.mp hm]
            exact ⟨f0, by omega⟩
      · rintro σ H5 ⟨ms, y1, y2, y3, y4, rfl, w5, ml, mb⟩
        have c0 : Cn 20 ms := ⟨fun z => by rw [z] at ml; simp at ml; omega, fun m hm => (mb m hm).1, fun m hm => (mb m hm).2, by omega⟩
        have c1 : Cn 60 ms := ⟨c0.ne, c0.lo, c0.hi, Nat.le_trans c0.len (by decide)⟩
        have l20 := c0.len
        refine ⟨_, rfl, _, rfl, p, L, _, ms, rfl, w5, upd_same, c1, fun H6 w6 => ⟨_, rfl, iteT ?_⟩⟩
        -- [1] + drawn
        refine ⟨_, rfl, by show 1 ≤ sizeLine; decide, fun a ha => ?_⟩
        have s1 := same_new (o := .lst [.int 1]) ha
        refine ⟨_, rfl, a, L, _, _, rfl, rfl, upd_same, s1 _ _ (w6.s _ _ upd_same), by rw [List.length_singleton, List.length_map, sizeLine_eq]; omega, fun b hb => ?_⟩
        have e1 : [V.int 1] ++ ms.map V.int = (1 :: ms).map V.int := rfl
        rw [e1]
        obtain ⟨w7, s7, h7⟩ := w6.new (s1.trans (same_new (o := .lst ((1 :: ms).map V.int)) hb)) (s1.free hb) upd_same
        have c2 : Cn 60 (1 :: ms) := c0.of (by simp) (by rw [List.length_cons]; omega) fun n hn => (List.mem_cons.mp hn).elim (fun e => .inr (by omega)) .inl
        refine ⟨p, b, _, _, rfl, w7, h7, c2, fun H8 w8 => ⟨_, rfl, iteT ?_⟩⟩
        have w8' := w8.weak s7
        -- [1, 2] + sorted(drawn)[::-1]
        refine ⟨_, rfl, by show 2 ≤ sizeLine; decide, fun a2 ha2 => ?_⟩
        have s2 := same_new (o := .lst [.int 1, .int 2]) ha2
        refine ⟨_, rfl, L, ms, rfl, SqL.mk (s2 _ _ (w8'.s _ _ upd_same)), by omega, fun ns' c pm _ hc => ?_⟩
        have sc := same_new (o := .lst (ns'.map V.int)) hc
        refine ⟨c, _, rfl, SqL.mk upd_same, fun c2 hc2 => ?_⟩
        have sc2 := same_new (o := .lst (ns'.map V.int).reverse) hc2
        have s4 := (s2.trans sc).trans sc2
        have pl := pm.length_eq
        refine ⟨a2, c2, [.int 1, .int 2], _, rfl, rfl, sc2 _ _ (sc _ _ upd_same), upd_same, by rw [List.length_reverse, List.length_map, sizeLine_eq]; show 2 + _ ≤ _; omega, fun b2 hb2 => ?_⟩
        have e2 : [V.int 1, .int 2] ++ (ns'.map V.int).reverse = (1 :: 2 :: ns'.reverse).map V.int := by simp
        rw [e2]
        obtain ⟨w9, s9, h9⟩ := w8'.new (s4.trans (same_new (o := .lst ((1 :: 2 :: ns'.reverse).map V.int)) hb2)) (s4.free hb2) upd_same
        have c3 : Cn 60 (1 :: 2 :: ns'.reverse) := c0.of (by simp) (by simp; omega) fun n hn => by
          rcases List.mem_cons.mp hn with e | hn
          · exact .inr (by omega)
          · rcases List.mem_cons.mp hn with e | hn
            · exact .inr (by omega)
            · exact .inl (pm.mem_iff.mp (List.mem_reverse.mp hn))
        refine ⟨p, b2, _, _, rfl, w9, h9, c3, fun H9 w10 => q _ ((w10.weak s9).weak (same_new L0))⟩
/-! law -/
def sp_law (K : PySem.W.Frag) : Sp := fun vs H Q _ => ∃ (l : Addr) (ns : List Int), vs = [.ref l] ∧ SqL K H l (ns.map V.int) ∧ ns.length ≤ 63 ∧ ∀ H', Q (.bl true) H'
theorem sc_law : FnScope ["_law_script", "_law_k"] ["_law_script"] (defScope s_law) := ⟨rfl, rfl, rfl, by decide +kernel, rfl, by decide +kernel, by decide +kernel⟩
theorem ok_law {f f1 f2 : Addr} {fd fd1 fd2 : FuncData} (F : Fun K "law" "law" s_law f fd) (B : Blt mg) (D1 : Df K mg "_law_pot" s_pot ["_law_script", "_law_k"] f1 fd1) (D2 : Df K mg "_law_right" s_right ["_law_pot_here"] f2 fd2) (G2 : FnG P w K mg base 6 f2 fd2 ["_law_pot_here"] sp_right) : FnG P w K mg base 7 f fd ["_law_script"] (sp_law K) := by
  have G1 : FnOk P w K mg base CX0 1 f1 fd1 ["_law_script", "_law_k"] (sp_pot K) := ok_pot D1.F B
  refine F.okG sc_law (fun vs H Q E h => ?_) (fun cdv A outer s H vs Q E gd hr h => ?_)
  · obtain ⟨l, ns, rfl, _⟩ := h
    rfl
  · obtain ⟨l, ns, rfl, hs, hn, q⟩ := h
    have r1 : Room 1 _ := hr.mono (by decide)
    refine ⟨_, pss_one (ps_ret (pe_callB (cr_all rfl) (by rfl) B.all boot_all (pa_cons (pe_lc (own := [("_law_k", 1)]) (g := gName 1) (tt := tYes) rfl sc_law.nd
      (pi_range1 (by rfl) B.range (pa_cons (pe_callB (call_max2 rfl) (by rfl) B.max boot_max (pa_cons pe_int (pa_cons (pe_callB (call_min2 rfl) (by rfl) B.min boot_min (pa_cons pe_int (pa_cons (pe_callB call_len_seq (by rfl) B.len PySem.boot_len (pa_cons (pv 0) pa_nil)) pa_nil))) pa_nil))) pa_nil))
      (blkOk_by (N := ["_law_script", "_law_k"]) (sc := defScope s_law) (by decide +kernel)) (fun _ _ _ _ _ => pg_name (i := 1) sc_law.nd rfl (Or.inl rfl)) (fun _ _ _ _ _ => pts_nil)
      (fun _ _ _ _ _ => pe_callG (E := E0) G2 gd hr (by rfl) D2.g D2.F.kp D2.b .nil (pa_cons (pdf D1 G1 r1 (pa_cons (pv 0) (pa_cons (pv 1) pa_nil))) pa_nil))) pa_nil))), ?_⟩
    refine ⟨_, rfl, l, _, rfl, .inl hs, 3, _, rfl, 1, _, rfl, ?_⟩
    have nb : (0 : Int) ≤ (if (if (((ns.map V.int).length : Nat) : Int) < 3 then (((ns.map V.int).length : Nat) : Int) else 3) > 1 then (if (((ns.map V.int).length : Nat) : Int) < 3 then (((ns.map V.int).length : Nat) : Int) else 3) else 1) ∧
        (if (if (((ns.map V.int).length : Nat) : Int) < 3 then (((ns.map V.int).length : Nat) : Int) else 3) > 1 then (if (((ns.map V.int).length : Nat) : Int) < 3 then (((ns.map V.int).length : Nat) : Int) else 3) else 1) ≤ 3 := by
      split <;> split <;> omega
    revert nb
    generalize (if (if (((ns.map V.int).length : Nat) : Int) < 3 then (((ns.map V.int).length : Nat) : Int) else 3) > 1 then (if (((ns.map V.int).length : Nat) : Int) < 3 then (((ns.map V.int).length : Nat) : Int) else 3) else 1) = m
    rintro ⟨m0, m2⟩
    refine ⟨m, rfl, by omega, by omega, fun L hL => ?_⟩
    refine lc_range (n := m.toNat) (fun i H1 => Same H H1 ∧ H1 L = some (.lst ((List.replicate i true).map V.bl))) ⟨same_new hL, upd_same⟩ ?_ ?_
    · rintro i H1 hi ⟨s1, h1⟩
      refine ⟨rfl, yes_ite ?_⟩
      refine ⟨_, rfl, _, rfl, l, ns, i, (by rw [Int.zero_add]; rfl), s1.seq hs, hn, by omega, fun H2 p D s2 sD w2 => ?_⟩
      refine ⟨p, D, rfl, w2, fun H3 w3 => ?_⟩
      refine ⟨_, w3.s _ _ (sD _ _ h1), ?_, (s1.trans (sD.trans w3.s)).put hL, ?_⟩
      · rw [List.length_map, List.length_replicate]
        exact Nat.lt_of_lt_of_le (show i < 3 by omega) (by decide)
      · rw [upd_same, List.replicate_succ', List.map_append]
        rfl
    · rintro H1 ⟨s1, h1⟩
      refine ⟨L, List.replicate m.toNat true, rfl, SqL.mk h1, ?_⟩
      have e : (List.replicate m.toNat true).all id = true := by
        rw [List.all_eq_true]
        intro x hx
        rw [(List.mem_replicate.mp hx).2]
        rfl
      rw [e]
      exact q _
end
end G0

namespace G0
open PySem PySem.Spec PyProof.Rows L2
/-! ### what the top has written; the head -/
theorem all_mk {l : PySem.W.OpenLaw} {w : World} {K : PySem.W.Frag} {h : Heap} {mg : Str → Option Value} {fa f_isint f_iscount f_islist f_isrow f_iscounts f_fault f_first f_pot f_draw f_lrow f_passed f_can f_lfault f_bent f_val f_odd f_right f_law : Addr} (X : K.In h) (G : h.Ns mainGlobals mg) (hfa : mg "law" = some (.ref fa))
    {od_isint an_isint : Option Addr} {sl_isint : Array (Option Value)} {oc_isint kV_isint dc_isint pm_isint cd_isint ct_isint : Value}
    {od_iscount an_iscount : Option Addr} {sl_iscount : Array (Option Value)} {oc_iscount kV_iscount dc_iscount pm_iscount cd_iscount ct_iscount : Value}
    {od_islist an_islist : Option Addr} {sl_islist : Array (Option Value)} {oc_islist kV_islist dc_islist pm_islist cd_islist ct_islist : Value}
    {od_isrow an_isrow : Option Addr} {sl_isrow : Array (Option Value)} {oc_isrow kV_isrow dc_isrow pm_isrow cd_isrow ct_isrow : Value}
    {od_iscounts an_iscounts : Option Addr} {sl_iscounts : Array (Option Value)} {oc_iscounts kV_iscounts dc_iscounts pm_iscounts cd_iscounts ct_iscounts : Value}
    {od_fault an_fault : Option Addr} {sl_fault : Array (Option Value)} {oc_fault kV_fault dc_fault pm_fault cd_fault ct_fault : Value}
    {od_first an_first : Option Addr} {sl_first : Array (Option Value)} {oc_first kV_first dc_first pm_first cd_first ct_first : Value}
    {od_pot an_pot : Option Addr} {sl_pot : Array (Option Value)} {oc_pot kV_pot dc_pot pm_pot cd_pot ct_pot : Value}
    {od_draw an_draw : Option Addr} {sl_draw : Array (Option Value)} {oc_draw kV_draw dc_draw pm_draw cd_draw ct_draw : Value}
    {od_lrow an_lrow : Option Addr} {sl_lrow : Array (Option Value)} {oc_lrow kV_lrow dc_lrow pm_lrow cd_lrow ct_lrow : Value}
    {od_passed an_passed : Option Addr} {sl_passed : Array (Option Value)} {oc_passed kV_passed dc_passed pm_passed cd_passed ct_passed : Value}
    {od_can an_can : Option Addr} {sl_can : Array (Option Value)} {oc_can kV_can dc_can pm_can cd_can ct_can : Value}
    {od_lfault an_lfault : Option Addr} {sl_lfault : Array (Option Value)} {oc_lfault kV_lfault dc_lfault pm_lfault cd_lfault ct_lfault : Value}
    {od_bent an_bent : Option Addr} {sl_bent : Array (Option Value)} {oc_bent kV_bent dc_bent pm_bent cd_bent ct_bent : Value}
    {od_val an_val : Option Addr} {sl_val : Array (Option Value)} {oc_val kV_val dc_val pm_val cd_val ct_val : Value}
    {od_odd an_odd : Option Addr} {sl_odd : Array (Option Value)} {oc_odd kV_odd dc_odd pm_odd cd_odd ct_odd : Value}
    {od_right an_right : Option Addr} {sl_right : Array (Option Value)} {oc_right kV_right dc_right pm_right cd_right ct_right : Value}
    {od_law an_law : Option Addr} {sl_law : Array (Option Value)} {oc_law kV_law dc_law pm_law cd_law ct_law : Value}
    {t9 : Tok}
    {t24 : Tok}
    (a_isint : PySem.W.nsIn K mainGlobals "is_integer" = some (some (.ref f_isint)))
    (l_isint : K.lookup f_isint = some ⟨oc_isint, od_isint, .func (PySem.W.fnOf "is_integer" "is_integer" (defArgs s_is_integer) (defBody s_is_integer) (defScope s_is_integer) .none kV_isint dc_isint pm_isint an_isint cd_isint ct_isint), sl_isint⟩) (c_isint : PySem.W.codeIn K cd_isint "is_integer" = true) (k_isint : PySem.W.keepIn K (.ref f_isint) = true)
    (a_iscount : PySem.W.nsIn K mainGlobals "is_count" = some (some (.ref f_iscount)))
    (l_iscount : K.lookup f_iscount = some ⟨oc_iscount, od_iscount, .func (PySem.W.fnOf "is_count" "is_count" (defArgs s_is_count) (defBody s_is_count) (defScope s_is_count) .none kV_iscount dc_iscount pm_iscount an_iscount cd_iscount ct_iscount), sl_iscount⟩) (c_iscount : PySem.W.codeIn K cd_iscount "is_count" = true) (k_iscount : PySem.W.keepIn K (.ref f_iscount) = true)
    (a_islist : PySem.W.nsIn K mainGlobals "is_list" = some (some (.ref f_islist)))
    (l_islist : K.lookup f_islist = some ⟨oc_islist, od_islist, .func (PySem.W.fnOf "is_list" "is_list" (defArgs s_is_list) (defBody s_is_list) (defScope s_is_list) .none kV_islist dc_islist pm_islist an_islist cd_islist ct_islist), sl_islist⟩) (c_islist : PySem.W.codeIn K cd_islist "is_list" = true) (k_islist : PySem.W.keepIn K (.ref f_islist) = true)
    (a_isrow : PySem.W.nsIn K mainGlobals "is_row" = some (some (.ref f_isrow)))
    (l_isrow : K.lookup f_isrow = some ⟨oc_isrow, od_isrow, .func (PySem.W.fnOf "is_row" "is_row" (defArgs s_is_row) (defBody s_is_row) (defScope s_is_row) .none kV_isrow dc_isrow pm_isrow an_isrow cd_isrow ct_isrow), sl_isrow⟩) (c_isrow : PySem.W.codeIn K cd_isrow "is_row" = true) (k_isrow : PySem.W.keepIn K (.ref f_isrow) = true)
    (a_iscounts : PySem.W.nsIn K mainGlobals "is_counts" = some (some (.ref f_iscounts)))
    (l_iscounts : K.lookup f_iscounts = some ⟨oc_iscounts, od_iscounts, .func (PySem.W.fnOf "is_counts" "is_counts" (defArgs s_is_counts) (defBody s_is_counts) (defScope s_is_counts) .none kV_iscounts dc_iscounts pm_iscounts an_iscounts cd_iscounts ct_iscounts), sl_iscounts⟩) (c_iscounts : PySem.W.codeIn K cd_iscounts "is_counts" = true) (k_iscounts : PySem.W.keepIn K (.ref f_iscounts) = true)
    (a_fault : PySem.W.nsIn K mainGlobals "fault" = some (some (.ref f_fault)))
    (l_fault : K.lookup f_fault = some ⟨oc_fault, od_fault, .func (PySem.W.fnOf "fault" "fault" (defArgs s_fault) (defBody s_fault) (defScope s_fault) .none kV_fault dc_fault pm_fault an_fault cd_fault ct_fault), sl_fault⟩) (c_fault : PySem.W.codeIn K cd_fault "fault" = true) (k_fault : PySem.W.keepIn K (.ref f_fault) = true)
    (a_first : PySem.W.nsIn K mainGlobals "first_fault" = some (some (.ref f_first)))
    (l_first : K.lookup f_first = some ⟨oc_first, od_first, .func (PySem.W.fnOf "first_fault" "first_fault" (defArgs s_first_fault) (defBody s_first_fault) (defScope s_first_fault) .none kV_first dc_first pm_first an_first cd_first ct_first), sl_first⟩) (c_first : PySem.W.codeIn K cd_first "first_fault" = true) (k_first : PySem.W.keepIn K (.ref f_first) = true)
    (a_pot : PySem.W.nsIn K mainGlobals "_law_pot" = some (some (.ref f_pot)))
    (l_pot : K.lookup f_pot = some ⟨oc_pot, od_pot, .func (PySem.W.fnOf "_law_pot" "_law_pot" (defArgs s_pot) (defBody s_pot) (defScope s_pot) .none kV_pot dc_pot pm_pot an_pot cd_pot ct_pot), sl_pot⟩) (c_pot : PySem.W.codeIn K cd_pot "_law_pot" = true) (k_pot : PySem.W.keepIn K (.ref f_pot) = true)
    (a_draw : PySem.W.nsIn K mainGlobals "_law_draw" = some (some (.ref f_draw)))
    (l_draw : K.lookup f_draw = some ⟨oc_draw, od_draw, .func (PySem.W.fnOf "_law_draw" "_law_draw" (defArgs s_draw) (defBody s_draw) (defScope s_draw) .none kV_draw dc_draw pm_draw an_draw cd_draw ct_draw), sl_draw⟩) (c_draw : PySem.W.codeIn K cd_draw "_law_draw" = true) (k_draw : PySem.W.keepIn K (.ref f_draw) = true)
    (a_lrow : PySem.W.nsIn K mainGlobals "_law_row" = some (some (.ref f_lrow)))
    (l_lrow : K.lookup f_lrow = some ⟨oc_lrow, od_lrow, .func (PySem.W.fnOf "_law_row" "_law_row" (defArgs s_lrow) (defBody s_lrow) (defScope s_lrow) .none kV_lrow dc_lrow pm_lrow an_lrow cd_lrow ct_lrow), sl_lrow⟩) (c_lrow : PySem.W.codeIn K cd_lrow "_law_row" = true) (k_lrow : PySem.W.keepIn K (.ref f_lrow) = true)
    (a_passed : PySem.W.nsIn K mainGlobals "_law_passed" = some (some (.ref f_passed)))
    (l_passed : K.lookup f_passed = some ⟨oc_passed, od_passed, .func (PySem.W.fnOf "_law_passed" "_law_passed" (defArgs s_passed) (defBody s_passed) (defScope s_passed) .none kV_passed dc_passed pm_passed an_passed cd_passed ct_passed), sl_passed⟩) (c_passed : PySem.W.codeIn K cd_passed "_law_passed" = true) (k_passed : PySem.W.keepIn K (.ref f_passed) = true)
    (a_can : PySem.W.nsIn K mainGlobals "_law_can" = some (some (.ref f_can)))
    (l_can : K.lookup f_can = some ⟨oc_can, od_can, .func (PySem.W.fnOf "_law_can" "_law_can" (defArgs s_can) (defBody s_can) (defScope s_can) .none kV_can dc_can pm_can an_can cd_can ct_can), sl_can⟩) (c_can : PySem.W.codeIn K cd_can "_law_can" = true) (k_can : PySem.W.keepIn K (.ref f_can) = true)
    (a_lfault : PySem.W.nsIn K mainGlobals "_law_fault" = some (some (.ref f_lfault)))
    (l_lfault : K.lookup f_lfault = some ⟨oc_lfault, od_lfault, .func (PySem.W.fnOf "_law_fault" "_law_fault" (defArgs s_lfault) (defBody s_lfault) (defScope s_lfault) .none kV_lfault dc_lfault pm_lfault an_lfault cd_lfault ct_lfault), sl_lfault⟩) (c_lfault : PySem.W.codeIn K cd_lfault "_law_fault" = true) (k_lfault : PySem.W.keepIn K (.ref f_lfault) = true)
    (a_bent : PySem.W.nsIn K mainGlobals "_law_bent" = some (some (.ref f_bent)))
    (l_bent : K.lookup f_bent = some ⟨oc_bent, od_bent, .func (PySem.W.fnOf "_law_bent" "_law_bent" (defArgs s_bent) (defBody s_bent) (defScope s_bent) .none kV_bent dc_bent pm_bent an_bent cd_bent ct_bent), sl_bent⟩) (c_bent : PySem.W.codeIn K cd_bent "_law_bent" = true) (k_bent : PySem.W.keepIn K (.ref f_bent) = true)
    (a_val : PySem.W.nsIn K mainGlobals "_law_value_right" = some (some (.ref f_val)))
    (l_val : K.lookup f_val = some ⟨oc_val, od_val, .func (PySem.W.fnOf "_law_value_right" "_law_value_right" (defArgs s_val) (defBody s_val) (defScope s_val) .none kV_val dc_val pm_val an_val cd_val ct_val), sl_val⟩) (c_val : PySem.W.codeIn K cd_val "_law_value_right" = true) (k_val : PySem.W.keepIn K (.ref f_val) = true)
    (a_odd : PySem.W.nsIn K mainGlobals "_law_odds_right" = some (some (.ref f_odd)))
    (l_odd : K.lookup f_odd = some ⟨oc_odd, od_odd, .func (PySem.W.fnOf "_law_odds_right" "_law_odds_right" (defArgs s_odd) (defBody s_odd) (defScope s_odd) .none kV_odd dc_odd pm_odd an_odd cd_odd ct_odd), sl_odd⟩) (c_odd : PySem.W.codeIn K cd_odd "_law_odds_right" = true) (k_odd : PySem.W.keepIn K (.ref f_odd) = true)
    (a_right : PySem.W.nsIn K mainGlobals "_law_right" = some (some (.ref f_right)))
    (l_right : K.lookup f_right = some ⟨oc_right, od_right, .func (PySem.W.fnOf "_law_right" "_law_right" (defArgs s_right) (defBody s_right) (defScope s_right) .none kV_right dc_right pm_right an_right cd_right ct_right), sl_right⟩) (c_right : PySem.W.codeIn K cd_right "_law_right" = true) (k_right : PySem.W.keepIn K (.ref f_right) = true)
    (a_law : PySem.W.nsIn K mainGlobals "law" = some (some (.ref f_law)))
    (l_law : K.lookup f_law = some ⟨oc_law, od_law, .func (PySem.W.fnOf "law" "law" (defArgs s_law) (defBody s_law) (defScope s_law) .none kV_law dc_law pm_law an_law cd_law ct_law), sl_law⟩) (c_law : PySem.W.codeIn K cd_law "law" = true) (k_law : PySem.W.keepIn K (.ref f_law) = true)
    (v_places : PySem.W.nsIn K mainGlobals "MOST_PLACES" = some (some (.int 9 t9)))
    (v_sum : PySem.W.nsIn K mainGlobals "MOST_SUM" = some (some (.int 24 t24)))
    (z_isinstance : PySem.W.nsIn K mainGlobals "isinstance" = some none)
    (z_int : PySem.W.nsIn K mainGlobals "int" = some none)
    (z_bool : PySem.W.nsIn K mainGlobals "bool" = some none)
    (z_list : PySem.W.nsIn K mainGlobals "list" = some none)
    (z_tuple : PySem.W.nsIn K mainGlobals "tuple" = some none)
    (z_len : PySem.W.nsIn K mainGlobals "len" = some none)
    (z_all : PySem.W.nsIn K mainGlobals "all" = some none)
    (z_any : PySem.W.nsIn K mainGlobals "any" = some none)
    (z_abs : PySem.W.nsIn K mainGlobals "abs" = some none)
    (z_max : PySem.W.nsIn K mainGlobals "max" = some none)
    (z_min : PySem.W.nsIn K mainGlobals "min" = some none)
    (z_divmod : PySem.W.nsIn K mainGlobals "divmod" = some none)
    (z_range : PySem.W.nsIn K mainGlobals "range" = some none)
    (z_repr : PySem.W.nsIn K mainGlobals "repr" = some none)
    (z_enumerate : PySem.W.nsIn K mainGlobals "enumerate" = some none)
    (z_sum : PySem.W.nsIn K mainGlobals "sum" = some none)
    (z_sorted : PySem.W.nsIn K mainGlobals "sorted" = some none)
    (z_str : PySem.W.nsIn K mainGlobals "str" = some none)
    (z_dict : PySem.W.nsIn K mainGlobals "dict" = some none) :
    ∃ fd : FuncData, (∀ (s : Shared) (v : Value), BindsTo s fd ⟨[v], []⟩ [("_law_script", v)]) ∧ ∀ base : Heap, K.In base → base.Ns mainGlobals mg → FnG l.prog w K mg base 7 fa fd ["_law_script"] (sp_law K) := by
  have e := hfa.symm.trans (PySem.W.mg_of X G a_law)
  cases e
  have F_isint := fun_mk (st := s_is_integer) l_isint c_isint k_isint
  have b_isint := F_isint.binds (ps := ["value"]) fun _ _ _ _ _ _ us hl => match us, hl with | [_], _ => rfl
  have D_isint : Df K mg "is_integer" s_is_integer ["value"] f_isint _ := ⟨F_isint, PySem.W.mg_of X G a_isint, b_isint⟩
  have F_iscount := fun_mk (st := s_is_count) l_iscount c_iscount k_iscount
  have b_iscount := F_iscount.binds (ps := ["value"]) fun _ _ _ _ _ _ us hl => match us, hl with | [_], _ => rfl
  have D_iscount : Df K mg "is_count" s_is_count ["value"] f_iscount _ := ⟨F_iscount, PySem.W.mg_of X G a_iscount, b_iscount⟩
  have F_islist := fun_mk (st := s_is_list) l_islist c_islist k_islist
  have b_islist := F_islist.binds (ps := ["value"]) fun _ _ _ _ _ _ us hl => match us, hl with | [_], _ => rfl
  have D_islist : Df K mg "is_list" s_is_list ["value"] f_islist _ := ⟨F_islist, PySem.W.mg_of X G a_islist, b_islist⟩
  have F_isrow := fun_mk (st := s_is_row) l_isrow c_isrow k_isrow
  have b_isrow := F_isrow.binds (ps := ["value"]) fun _ _ _ _ _ _ us hl => match us, hl with | [_], _ => rfl
  have D_isrow : Df K mg "is_row" s_is_row ["value"] f_isrow _ := ⟨F_isrow, PySem.W.mg_of X G a_isrow, b_isrow⟩
  have F_iscounts := fun_mk (st := s_is_counts) l_iscounts c_iscounts k_iscounts
  have b_iscounts := F_iscounts.binds (ps := ["value"]) fun _ _ _ _ _ _ us hl => match us, hl with | [_], _ => rfl
  have D_iscounts : Df K mg "is_counts" s_is_counts ["value"] f_iscounts _ := ⟨F_iscounts, PySem.W.mg_of X G a_iscounts, b_iscounts⟩
  have F_fault := fun_mk (st := s_fault) l_fault c_fault k_fault
  have b_fault := F_fault.binds (ps := ["value"]) fun _ _ _ _ _ _ us hl => match us, hl with | [_], _ => rfl
  have D_fault : Df K mg "fault" s_fault ["value"] f_fault _ := ⟨F_fault, PySem.W.mg_of X G a_fault, b_fault⟩
  have F_first := fun_mk (st := s_first_fault) l_first c_first k_first
  have b_first := F_first.binds (ps := ["counts"]) fun _ _ _ _ _ _ us hl => match us, hl with | [_], _ => rfl
  have D_first : Df K mg "first_fault" s_first_fault ["counts"] f_first _ := ⟨F_first, PySem.W.mg_of X G a_first, b_first⟩
  have F_pot := fun_mk (st := s_pot) l_pot c_pot k_pot
  have b_pot := F_pot.binds (ps := ["_law_script", "_law_k"]) fun _ _ _ _ _ _ us hl => match us, hl with | [_, _], _ => rfl
  have D_pot : Df K mg "_law_pot" s_pot ["_law_script", "_law_k"] f_pot _ := ⟨F_pot, PySem.W.mg_of X G a_pot, b_pot⟩
  have F_draw := fun_mk (st := s_draw) l_draw c_draw k_draw
  have b_draw := F_draw.binds (ps := ["_law_pot_here", "_law_size"]) fun _ _ _ _ _ _ us hl => match us, hl with | [_, _], _ => rfl
  have D_draw : Df K mg "_law_draw" s_draw ["_law_pot_here", "_law_size"] f_draw _ := ⟨F_draw, PySem.W.mg_of X G a_draw, b_draw⟩
  have F_lrow := fun_mk (st := s_lrow) l_lrow c_lrow k_lrow
  have b_lrow := F_lrow.binds (ps := ["_law_pot_here", "_law_most"]) fun _ _ _ _ _ _ us hl => match us, hl with | [_, _], _ => rfl
  have D_lrow : Df K mg "_law_row" s_lrow ["_law_pot_here", "_law_most"] f_lrow _ := ⟨F_lrow, PySem.W.mg_of X G a_lrow, b_lrow⟩
  have F_passed := fun_mk (st := s_passed) l_passed c_passed k_passed
  have b_passed := F_passed.binds (ps := ["_law_pot_here", "_law_numbers"]) fun _ _ _ _ _ _ us hl => match us, hl with | [_, _], _ => rfl
  have D_passed : Df K mg "_law_passed" s_passed ["_law_pot_here", "_law_numbers"] f_passed _ := ⟨F_passed, PySem.W.mg_of X G a_passed, b_passed⟩
  have F_can := fun_mk (st := s_can) l_can c_can k_can
  have b_can := F_can.binds (ps := ["_law_value"]) fun _ _ _ _ _ _ us hl => match us, hl with | [_], _ => rfl
  have D_can : Df K mg "_law_can" s_can ["_law_value"] f_can _ := ⟨F_can, PySem.W.mg_of X G a_can, b_can⟩
  have F_lfault := fun_mk (st := s_lfault) l_lfault c_lfault k_lfault
  have b_lfault := F_lfault.binds (ps := ["_law_numbers"]) fun _ _ _ _ _ _ us hl => match us, hl with | [_], _ => rfl
  have D_lfault : Df K mg "_law_fault" s_lfault ["_law_numbers"] f_lfault _ := ⟨F_lfault, PySem.W.mg_of X G a_lfault, b_lfault⟩
  have F_bent := fun_mk (st := s_bent) l_bent c_bent k_bent
  have b_bent := F_bent.binds (ps := ["_law_pot_here", "_law_numbers"]) fun _ _ _ _ _ _ us hl => match us, hl with | [_, _], _ => rfl
  have D_bent : Df K mg "_law_bent" s_bent ["_law_pot_here", "_law_numbers"] f_bent _ := ⟨F_bent, PySem.W.mg_of X G a_bent, b_bent⟩
  have F_val := fun_mk (st := s_val) l_val c_val k_val
  have b_val := F_val.binds (ps := ["_law_pot_here", "_law_numbers"]) fun _ _ _ _ _ _ us hl => match us, hl with | [_, _], _ => rfl
  have D_val : Df K mg "_law_value_right" s_val ["_law_pot_here", "_law_numbers"] f_val _ := ⟨F_val, PySem.W.mg_of X G a_val, b_val⟩
  have F_odd := fun_mk (st := s_odd) l_odd c_odd k_odd
  have b_odd := F_odd.binds (ps := ["_law_pot_here", "_law_numbers"]) fun _ _ _ _ _ _ us hl => match us, hl with | [_, _], _ => rfl
  have D_odd : Df K mg "_law_odds_right" s_odd ["_law_pot_here", "_law_numbers"] f_odd _ := ⟨F_odd, PySem.W.mg_of X G a_odd, b_odd⟩
  have F_right := fun_mk (st := s_right) l_right c_right k_right
  have b_right := F_right.binds (ps := ["_law_pot_here"]) fun _ _ _ _ _ _ us hl => match us, hl with | [_], _ => rfl
  have D_right : Df K mg "_law_right" s_right ["_law_pot_here"] f_right _ := ⟨F_right, PySem.W.mg_of X G a_right, b_right⟩
  have F_law := fun_mk (st := s_law) l_law c_law k_law
  have B : Blt mg := ⟨PySem.W.mg_none_of X G z_isinstance, PySem.W.mg_none_of X G z_int, PySem.W.mg_none_of X G z_bool, PySem.W.mg_none_of X G z_list, PySem.W.mg_none_of X G z_tuple, PySem.W.mg_none_of X G z_len, PySem.W.mg_none_of X G z_all, PySem.W.mg_none_of X G z_any, PySem.W.mg_none_of X G z_abs, PySem.W.mg_none_of X G z_max, PySem.W.mg_none_of X G z_min, PySem.W.mg_none_of X G z_divmod, PySem.W.mg_none_of X G z_range, PySem.W.mg_none_of X G z_repr, PySem.W.mg_none_of X G z_enumerate, PySem.W.mg_none_of X G z_sum, PySem.W.mg_none_of X G z_sorted, PySem.W.mg_none_of X G z_str, PySem.W.mg_none_of X G z_dict⟩
  have m9 := PySem.W.mg_of X G v_places
  have m24 := PySem.W.mg_of X G v_sum
  refine ⟨PySem.W.fnOf "law" "law" (defArgs s_law) (defBody s_law) (defScope s_law) .none kV_law dc_law pm_law an_law cd_law ct_law, fun s v => .of_eq rfl, fun base _ _ => ?_⟩
  · have GD : FnOk l.prog w K mg base CX0 1 f_draw _ ["_law_pot_here", "_law_size"] sp_draw := ok_draw F_draw B
    have GI : FnOk l.prog w K mg base CX0 1 f_isint _ ["value"] (sp_intA K) := ok_intA F_isint B
    have GL : FnOk l.prog w K mg base CX0 1 f_islist _ ["value"] (sp_listA K) := ok_listA F_islist B
    have GC : FnOk l.prog w K mg base CX0 2 f_iscount _ ["value"] (sp_cntA K) := ok_cntA F_iscount D_isint GI
    have GCs : FnOk l.prog w K mg base CX0 3 f_iscounts _ ["value"] (sp_countsA K) := ok_countsA F_iscounts B D_islist GL D_iscount GC
    have GF : FnOk l.prog w K mg base CX0 1 f_first _ ["counts"] (sp_first K) := ok_first F_first B m9 m24
    have GR : FnOk l.prog w K mg base CX0 4 f_isrow _ ["value"] (sp_rowA K) := ok_rowA F_isrow D_iscounts GCs D_first GF
    have GFl : FnOk l.prog w K mg base CX0 4 f_fault _ ["value"] (sp_fault K) := ok_fault F_fault D_iscounts GCs D_first GF
    have KR : KB (PySem.W.fnOf "is_row" "is_row" (defArgs s_is_row) (defBody s_is_row) (defScope s_is_row) .none kV_isrow dc_isrow pm_isrow an_isrow cd_isrow ct_isrow) ["value"] ["value"] 0 := kb_of F_isrow (fun _ _ _ _ _ _ us ws h1 h2 => match us, ws, h1, h2 with | [], [_], _, _ => rfl)
    have KF : KB (PySem.W.fnOf "fault" "fault" (defArgs s_fault) (defBody s_fault) (defScope s_fault) .none kV_fault dc_fault pm_fault an_fault cd_fault ct_fault) ["value"] ["value"] 0 := kb_of F_fault (fun _ _ _ _ _ _ us ws h1 h2 => match us, ws, h1, h2 with | [], [_], _, _ => rfl)
    have GCan : FnOk l.prog w K mg base CX0 1 f_can _ ["_law_value"] (sp_can K) := ok_can F_can B
    have GLf : FnOk l.prog w K mg base CX0 2 f_lfault _ ["_law_numbers"] (sp_lfault K) := ok_lfault F_lfault B D_can GCan
    have GPass : FnOk l.prog w K mg base CX0 2 f_passed _ ["_law_pot_here", "_law_numbers"] (sp_passed K) := ok_passed F_passed B D_draw GD
    have GRow : FnOk l.prog w K mg base CX0 2 f_lrow _ ["_law_pot_here", "_law_most"] sp_lrow := ok_lrow F_lrow B D_draw GD
    have GB : FnOk l.prog w K mg base CX0 2 f_bent _ ["_law_pot_here", "_law_numbers"] sp_bent := ok_bent F_bent B D_draw GD
    have GV : FnG l.prog w K mg base 5 f_val _ ["_law_pot_here", "_law_numbers"] sp_val := ok_val F_val B D_passed GPass D_can GCan D_lfault GLf D_isrow GR KR D_fault GFl KF
    have GO : FnG l.prog w K mg base 5 f_odd _ ["_law_pot_here", "_law_numbers"] sp_odd := ok_odd F_odd B D_draw GD D_isrow GR
    exact ok_law F_law B D_pot D_right (ok_right F_right B D_draw GD D_lrow GRow D_can GCan D_bent GB D_val GV D_odd GO D_isrow GR)
end G0

open PySem PySem.W PyProof.Rows
set_option maxRecDepth 100000 in
set_option maxHeartbeats 0 in
theorem PySem.Challenge.cw_pointrows_k51_any_value_as_row_holds : PySem.Challenge.rw_pointrows_k51_any_value_as_row.Holds := by
  w_on; o_law; k_head; (case hw => w_witness2)
  k_fill
  refine G0.walk_G (l := PySem.Challenge.rw_pointrows_k51_any_value_as_row) (n := 63) (k := 7) (x := "_law_script") (sp := G0.sp_law) rfl (by decide) rfl ⟨rfl, by decide, by decide⟩ (fun w h Y => PySem.W.kIn_of Y) ?F (fun _ _ a ns hl _ hS => ⟨a, ns, rfl, hS, hl, fun _ => rfl⟩)
  case F =>
    intro w mg fa h KX G hmg
    refine' G0.all_mk KX G hmg ?a_isint ?l_isint ?c_isint ?k_isint ?a_iscount ?l_iscount ?c_iscount ?k_iscount ?a_islist ?l_islist ?c_islist ?k_islist ?a_isrow ?l_isrow ?c_isrow ?k_isrow ?a_iscounts ?l_iscounts ?c_iscounts ?k_iscounts ?a_fault ?l_fault ?c_fault ?k_fault ?a_first ?l_first ?c_first ?k_first ?a_pot ?l_pot ?c_pot ?k_pot ?a_draw ?l_draw ?c_draw ?k_draw ?a_lrow ?l_lrow ?c_lrow ?k_lrow ?a_passed ?l_passed ?c_passed ?k_passed ?a_can ?l_can ?c_can ?k_can ?a_lfault ?l_lfault ?c_lfault ?k_lfault ?a_bent ?l_bent ?c_bent ?k_bent ?a_val ?l_val ?c_val ?k_val ?a_odd ?l_odd ?c_odd ?k_odd ?a_right ?l_right ?c_right ?k_right ?a_law ?l_law ?c_law ?k_law ?v_places ?v_sum ?z_isinstance ?z_int ?z_bool ?z_list ?z_tuple ?z_len ?z_all ?z_any ?z_abs ?z_max ?z_min ?z_divmod ?z_range ?z_repr ?z_enumerate ?z_sum ?z_sorted ?z_str ?z_dict
    (case a_isint => k_is)
    (case l_isint => k_is)
    (case c_isint => k_is)
    (case k_isint => k_is)
    (case a_iscount => k_is)
    (case l_iscount => k_is)
    (case c_iscount => k_is)
    (case k_iscount => k_is)
    (case a_islist => k_is)
    (case l_islist => k_is)
    (case c_islist => k_is)
    (case k_islist => k_is)
    (case a_isrow => k_is)
    (case l_isrow => k_is)
    (case c_isrow => k_is)
    (case k_isrow => k_is)
    (case a_iscounts => k_is)
    (case l_iscounts => k_is)
    (case c_iscounts => k_is)
    (case k_iscounts => k_is)
    (case a_fault => k_is)
    (case l_fault => k_is)
    (case c_fault => k_is)
    (case k_fault => k_is)
    (case a_first => k_is)
    (case l_first => k_is)
    (case c_first => k_is)
    (case k_first => k_is)
    (case a_pot => k_is)
    (case l_pot => k_is)
    (case c_pot => k_is)
    (case k_pot => k_is)
    (case a_draw => k_is)
    (case l_draw => k_is)
    (case c_draw => k_is)
    (case k_draw => k_is)
    (case a_lrow => k_is)
    (case l_lrow => k_is)
    (case c_lrow => k_is)
    (case k_lrow => k_is)
    (case a_passed => k_is)
    (case l_passed => k_is)
    (case c_passed => k_is)
    (case k_passed => k_is)
    (case a_can => k_is)
    (case l_can => k_is)
    (case c_can => k_is)
    (case k_can => k_is)
    (case a_lfault => k_is)
    (case l_lfault => k_is)
    (case c_lfault => k_is)
    (case k_lfault => k_is)
    (case a_bent => k_is)
    (case l_bent => k_is)
    (case c_bent => k_is)
    (case k_bent => k_is)
    (case a_val => k_is)
    (case l_val => k_is)
    (case c_val => k_is)
    (case k_val => k_is)
    (case a_odd => k_is)
    (case l_odd => k_is)
    (case c_odd => k_is)
    (case k_odd => k_is)
    (case a_right => k_is)
    (case l_right => k_is)
    (case c_right => k_is)
    (case k_right => k_is)
    (case a_law => k_is)
    (case l_law => k_is)
    (case c_law => k_is)
    (case k_law => k_is)
    (case v_places => k_is)
    (case v_sum => k_is)
    (case z_isinstance => k_is)
    (case z_int => k_is)
    (case z_bool => k_is)
    (case z_list => k_is)
    (case z_tuple => k_is)
    (case z_len => k_is)
    (case z_all => k_is)
    (case z_any => k_is)
    (case z_abs => k_is)
    (case z_max => k_is)
    (case z_min => k_is)
    (case z_divmod => k_is)
    (case z_range => k_is)
    (case z_repr => k_is)
    (case z_enumerate => k_is)
    (case z_sum => k_is)
    (case z_sorted => k_is)
    (case z_str => k_is)
    (case z_dict => k_is)

