import PyProof.Rows.All
import Wide.All
import OpenK.AllK
import Wide.FinOn
import HandS.ForMost
import HandS.Deep
import HandS.Gcd
import HandS.IsInst
import HandS.Wide
import HandS.WideBits
import HandS.FStrTup
import HandS.Walk
import HandS.Style
import PySem.Challenge.RW_pointrows_k21_whole_points_told
set_option Elab.async false
set_option linter.all false
set_option maxRecDepth 100000
set_option maxHeartbeats 4000000
namespace G0
open PySem PySem.Spec PyProof.Rows L2
/-! A def's promise where no repr is under way (the around's guards are empty): repr of data is then known. -/
structure FnG (P : Program) (w : World) (K : PySem.W.Frag) (mg : Str → Option Value) (base : Heap) (k : Nat) (f : Addr) (fd : FuncData) (ps : List Str) (sp : Sp) : Prop where
  len : ∀ vs H Q E, sp vs H Q E → vs.length = ps.length
  run : ∀ (A : Around) (outer : List Env) (s : Shared) (H : Hp) (args : Args) (us : List Value) (vs : List V) (Q : VK) (E : XK), A.guards = some [] → Room k A →
    Env0 P w K mg base A outer s H → BindsTo s fd args (ps.zip us) → Vals vs us → sp vs H Q E → codeAny (model P w) A (.call (.ref f) args) (CR CX0 outer P w H s Q E) s
theorem FnG.ofOk {P : Program} {w : World} {K : PySem.W.Frag} {mg : Str → Option Value} {base : Heap} {k : Nat} {f : Addr} {fd : FuncData} {ps : List Str} {sp : Sp} (F : FnOk P w K mg base CX0 k f fd ps sp) : FnG P w K mg base k f fd ps sp :=
  ⟨F.len, fun A outer s H args us vs Q E _ hr he hb hv hs => F.run A outer s H args us vs Q E hr he hb hv hs⟩
theorem FnG.mono {P : Program} {w : World} {K : PySem.W.Frag} {mg : Str → Option Value} {base : Heap} {j k : Nat} {f : Addr} {fd : FuncData} {ps : List Str} {sp : Sp} (F : FnG P w K mg base j f fd ps sp) (h : j ≤ k) : FnG P w K mg base k f fd ps sp :=
  ⟨F.len, fun A outer s H args us vs Q E hg hr => F.run A outer s H args us vs Q E hg (hr.mono h)⟩

section
variable {X : Cx} {k : Nat} {f : Addr} {fd : FuncData} {ps : List Str} {sp : Sp} {dvs : List V} {ds : List Value} {E : XK} {x : Str} {p pos : Pos} {e : Expr} {es : List Expr} {t : TA}
theorem run_g {pn : List (Addr × Obj)} {σ : L2.St} {H : Hp} {s : Shared} {Q : VK} {us : List Value} {vs : List V} (F : FnG X.prog X.w X.K X.mg X.base k f fd ps sp) (gd : X.A.guards = some []) (room : Room k X.A) (bn : Binds X.K fd ps ds) (dv : Vals dvs ds)
    (J : Inv X pn σ H s) (rv : Vals vs us) (want : sp (vs ++ dvs) H Q E) : wpAny (model X.prog X.w) X.A (call (.ref f) us) (EP X pn σ Q) X.xe s := by
  have rv2 := rv.append dv
  have ln : (us ++ ds).length = ps.length := rv2.length.symm.trans (F.len _ _ _ _ want)
  refine wpAny_call (codeAny_mono (F.run X.A X.stack s H ⟨us, []⟩ (us ++ ds) (vs ++ dvs) Q E gd room J.env0 (bn s us J.kIn ln) rv2 want) fun res s2 got => ?_)
  match res, got with
  | .error _, got => exact got.elim
  | .ok (.ret _), got => exact J.after got
  | .ok .next, got => exact got.elim
  | .ok .brk, got => exact got.elim
  | .ok .cont, got => exact got.elim
theorem pe_callG (F : FnG X.prog X.w X.K X.mg X.base k f fd ps sp) (gd : X.A.guards = some []) (room : Room k X.A) (gl : Gl X x) (at_ : X.mg x = some (.ref f)) (kp : PySem.W.keepIn X.K (.ref f) = true) (bn : Binds X.K fd ps ds) (dv : Vals dvs ds)
    (pa : PA X (e :: es) t) (hdb : (x == ("__debug__" : Str)) = false := by decide) (he : starEach (e :: es) X.env = (false, eval e X.env) :: starEach es X.env := by rfl) (hpl : (backTo pos (starEach es X.env)).any (·.1) = false := by rfl) :
    PE X (.Call (.Name x p) (e :: es) [] pos) (tCall sp dvs E t) := by
  constructor
  intro pn s σ H Q J want
  apply wpAny_Call_Name_kw
  refine ld_glob J gl at_ ?_ hdb
  refine PySem.W.callWith_K (h₀ := X.base) J.ok.mod.kin kp ?_ he hpl
  refine thn (pa.run pos pn s σ H _ J want) ?_
  rintro us s1 ⟨vs, H1, J1, rv, q⟩
  exact ⟨J1.kIn, run_g F gd room bn dv J1 rv q⟩
end

/-- a def's body, the guards empty -/
theorem _root_.L2.Fun.okG {P : Program} {w : World} {K : PySem.W.Frag} {mg : Str → Option Value} {base : Heap} {x qual : Str} {st : Stmt} {f : Addr} {fd : FuncData} {N ps : List Str} {k : Nat} {sp : Sp} (F : Fun K x qual st f fd) (S : FnScope N ps (defScope st))
    (ln : ∀ vs H Q E, sp vs H Q E → vs.length = ps.length)
    (body : ∀ (cdv : Value) (A : Around) (outer : List Env) (s : Shared) (H : Hp) (vs : List V) (Q : VK) (E : XK), (A.deeper (envOfC qual (defScope st) s.heap.objs.size f cdv)).guards = some [] → Room k (A.deeper (envOfC qual (defScope st) s.heap.objs.size f cdv)) → sp vs H Q E →
      ∃ t, PSs (cxOf CX0 P w K mg base N qual (defScope st) f cdv A outer s H E).nox (defBody st) t ∧ t { nx := fun _ H' => Q .non H', rt := Q } (start N vs) H) : FnG P w K mg base (k + 1) f fd ps sp := by
  obtain ⟨oc, od, kV, doc, pm, an, cdv, ct, osl, rfl, look, code⟩ := F.ex
  constructor
  · exact ln
  intro A outer s H args us vs Q E gd room e0 bn rv want
  have ln1 := ln _ _ _ _ want
  have kin : K.In s.heap := e0.mod.kin.keeps fun b o q => (e0.bs b o q).1
  have nolim : s.heap.NoLimit := e0.mod.nolimit.keeps fun b o q => (e0.bs b o q).1
  have kinds : ∀ y ∈ ps.zip us, (defScope st).names.lookup y.1 = some .local ∨ ((defScope st).names.lookup y.1 = some .cell ∧ ((cellsFrom (s.heap.objs.size + 1) (defScope st).names []).lookup y.1).isSome = true) := by
    rintro ⟨n, v⟩ mem
    rcases S.par n (List.of_mem_zip mem).1 with here | here
    · exact .inl here
    · exact .inr ⟨here, PySem.W.cellsFrom_some _ _ _ (.inl here)⟩
  refine codeAny_call_function room.depth (kin _ _ look) rfl S.co S.gen rfl (PySem.W.codeRec_of kin code) (bn _ _ _ _ ?_)
  refine wpAny_newFunctionEnv_cells S.kind kinds fun env he s1 into => ?_
  cases he
  refine ⟨nolim.keeps into.toInCall.keep, codeAny_func ?_⟩
  obtain ⟨t, ht, run⟩ := body cdv A outer s H vs Q E gd (room.deeper _) want
  have J : Inv (cxOf CX0 P w K mg base N qual (defScope st) f cdv A outer s H E) [] (start N vs) H s1 := inv_start S room.hd e0 ln1 rv into
  refine wpAny_mono (ht.nox.run [] s1 (start N vs) H _ J run) (fun fl s2 got => ?_) fun _ _ got => got
  match fl, got with
  | .ret u, ⟨v, σ2, H2, J2, rv2, q⟩ => exact ⟨v, H2, J2.os, J2.bare, J2.base, J2.hok, rv2, q⟩
  | .next, ⟨σ2, H2, J2, q⟩ => exact ⟨.non, H2, J2.os, J2.bare, J2.base, J2.hok, rfl, q⟩
  | .brk, ⟨_, _, _, q⟩ => exact q.elim
  | .cont, ⟨_, _, _, q⟩ => exact q.elim

/-! ### repr of data -/
def rRepr (K : PySem.W.Frag) : List V → Hp → VK → Prop := fun xs H Q => ∃ (x : V) (d : PyData), xs = [x] ∧ Dp K H x d ∧ d.showable = true ∧ d.hasDict = false ∧ d.depth ≤ 16 ∧ d.shown.length ≤ sizeLine ∧ Q (.str d.shown) H
theorem cr_repr {X : Cx} (gd : X.A.guards = some []) (hu : X.A.units + 64 < cLine) : CallR X (.builtin "repr") (fun xs H Q => ∃ (a : Addr) (d : PyData), xs = [.ref a] ∧ Dp X.K H (.ref a) d ∧ d.showable = true ∧ d.hasDict = false ∧ d.depth ≤ 16 ∧ d.shown.length ≤ sizeLine ∧ Q (.str d.shown) H) := by
  intro pn s σ H xs us Q J rv h
  obtain ⟨a, d, rfl, dp, sh, nd, dep, z, q⟩ := h
  obtain ⟨u, rfl, ru⟩ := vals1 rv
  cases ru
  obtain ⟨as, rd⟩ := Dp.reads J d _ _ dp rfl
  refine repr_of_reads' rd sh (fun e => ?_) gd (by omega) (fun _ _ e => e) (fun h2 u2 tk keep => ?_) z
  · rw [nd] at e
    cases e
  · exact ⟨.str d.shown, H, J.kept keep, ⟨_, rfl⟩, q⟩
end G0

namespace G0
open PySem PySem.Spec PyProof.Rows L2
/-- the law is called where no repr is under way -/
theorem call_top {P : Program} {w : World} {K : PySem.W.Frag} {mg mb : Str → Option Value} {k : Nat} {fa a : Addr} {fd : FuncData} {x : Str} {sp : Sp} {s1 : Shared} {vs : List Value} {ns : List Int}
    (kin : K.In s1.heap) (hns : s1.heap.Ns mainGlobals mg) (hb : s1.heap.Ns builtinsNs mb) (hbb : ∀ x : Str, x ≠ "__name__" → mb x = bootBuiltins x) (lim : s1.heap.NoLimit) (gens : s1.gens = #[])
    (ha : s1.heap.get? a = some { cls := .type "list", data := .seq vs.toArray }) (hi : IntsAre vs ns) (hl : ns.length ≤ sizeLine) (room : Room k callerA)
    (F : ∀ base : Heap, K.In base → base.Ns mainGlobals mg → FnG P w K mg base k fa fd [x] sp) (bind : ∀ (s : Shared) (u : Value), BindsTo s fd ⟨[u], []⟩ [(x, u)])
    (want : ∀ H : Hp, Only H → SqL K H a (ns.map V.int) → sp [.ref a] H (fun v _ => v = .bl true) fun _ _ _ => False) :
    codeAny (model P w) callerA (.call (.ref fa) ⟨[.ref a], []⟩) (fun r s2 => r = .ok (.ret (.bool true)) ∧ OldK s1.heap s2.heap ∧ s2.os = s1.os ∧ AllBare s2.gens) s1 := by
  have vv := vals_ints hi
  have lv := hi.length
  -- H tracks nothing, or the script alone
  have main : ∀ H : Hp, Only H → SqL K H a (ns.map V.int) → HOk P w H s1.heap → (∀ b, H b ≠ none → b = a ∧ K.lookup a = none) →
      codeAny (model P w) callerA (.call (.ref fa) ⟨[.ref a], []⟩) (fun r s2 => r = .ok (.ret (.bool true)) ∧ OldK s1.heap s2.heap ∧ s2.os = s1.os ∧ AllBare s2.gens) s1 := by
    intro H only sq hok just
    have free : ∀ {b : Addr} {ob : Obj} {es : Array DictEntry} {ep : Nat}, s1.heap.get? b = some ob → ob.data = .dict es ep → H b = none := by
      intro b ob es ep e1 e2
      refine Classical.byContradiction fun no => ?_
      obtain rfl := (just b no).1
      rw [ha] at e1
      cases e1
      cases (show Data.seq vs.toArray _ = Data.dict es ep from e2)
    have ns_of : ∀ {b : Addr} {m : Str → Option Value}, s1.heap.Ns b m → (hidT s1.heap H).Ns b m := by
      rintro b m ⟨ob, es, ep, e1, e2, rest⟩
      exact ⟨ob, es, ep, hidT_get e1 (free e1 e2), e2, rest⟩
    have kinH : K.In (hidT s1.heap H) := by
      intro b ob e1
      refine hidT_get (kin b ob e1) (Classical.byContradiction fun no => ?_)
      obtain ⟨rfl, z⟩ := just b no
      rw [z] at e1
      cases e1
    have limH : (hidT s1.heap H).NoLimit := by
      obtain ⟨mc, l1, l2⟩ := lim
      exact ⟨mc, ns_of l1, l2⟩
    have env : Env0 P w K mg (hidT s1.heap H) callerA [] s1 H := by
      refine ⟨rfl, ⟨kinH, ns_of hns, ⟨mb, ns_of hb, hbb⟩, limH⟩, fun b ob e1 => of_hidT e1, Nat.le_of_eq (hidT_size _ _), trivial, ?_, hok, .of_eq gens⟩
      intro b mem
      cases (show b ∈ ([] : List Addr) from mem)
    refine codeAny_mono ((F _ kinH (ns_of hns)).run callerA [] s1 H ⟨[.ref a], []⟩ [.ref a] [.ref a] _ _ rfl room env (bind s1 (.ref a)) (.cons rfl .nil) (want H only sq)) fun res s2 got => ?_
    match res, got with
    | .error _, got => exact got.elim
    | .ok .next, got => exact got.elim
    | .ok .brk, got => exact got.elim
    | .ok .cont, got => exact got.elim
    | .ok (.ret u), ⟨v, H2, eos, bare, un, hok2, rv, (q : v = .bl true)⟩ =>
      subst q
      obtain rfl : u = Value.bool true := rv
      refine ⟨rfl, OldK.of_keep fun b ob e1 => ?_, eos, bare⟩
      rcases only b with z | ⟨oz, ys, z⟩
      · refine un.keep b ob e1 z (fun mem => ?_) (fun mem => ?_)
        · cases (show b ∈ ([] : List Addr) from mem)
        · cases mem
      · obtain ⟨i1, _⟩ := hok b _ z
        obtain ⟨i2, _⟩ := hok2 b _ (un.frzs b oz _ z)
        exact i2.trans (i1.symm.trans e1)
  cases written : K.lookup a with
  | some ob =>
    have e1 := kin a ob written
    rw [ha] at e1
    cases e1
    refine main (fun _ => none) (fun _ => .inl rfl) (.inr ⟨_, vs.toArray, _, written, rfl, rfl, rfl, ?_, ?_⟩) (fun b u e2 => ?_) (fun b no => absurd rfl no)
    · rw [List.size_toArray, lv]
      exact hl
    · simpa using vv
    · cases (show (none : Option HO) = some u from e2)
  | none =>
    let T : Hp := fun b => if b = a then some (.frz { cls := .type "list", data := .seq vs.toArray } (.lst (ns.map V.int))) else none
    have here : T a = some (.frz { cls := .type "list", data := .seq vs.toArray } (.lst (ns.map V.int))) := if_pos rfl
    have away : ∀ b, b ≠ a → T b = none := fun b ne => if_neg ne
    refine main T (fun b => ?_) (.inl (.inr ⟨_, here⟩)) (fun b u e2 => ?_) (fun b no => ?_)
    · by_cases eb : b = a
      · subst eb
        exact .inr ⟨_, _, here⟩
      · exact .inl (away b eb)
    · by_cases eb : b = a
      · subst eb
        rw [here] at e2
        cases e2
        refine ⟨ha, ?_, vs, _, vv, ha⟩
        rw [List.length_map]
        exact hl
      · rw [away b eb] at e2
        cases e2
    · refine ⟨Classical.byContradiction fun ne => no (away b ne), written⟩
/-- what k_head leaves, by such a promise -/
theorem walk_G {l : PySem.W.OpenLaw} {n k : Nat} {q : Program} {loose : List Str} {XP : (Str → Option Value) → Heap → Prop} {YP : World → Heap → Prop} {d : DefRec} {K : Params → PySem.W.Frag} {sp : PySem.W.Frag → Sp} {x : Str}
    (most : l.most = some n) (fits : n ≤ sizeLine) (nodf : d.params.defaults = []) (room : Room k callerA) (hY : ∀ (w : World) (h : Heap), YP w h → (K w.params).In h)
    (F : ∀ (w : World) (mg : Str → Option Value) (fa : Addr) (h : Heap), (K w.params).In h → h.Ns mainGlobals mg → mg d.name = some (.ref fa) →
      ∃ fd : FuncData, (∀ (s : Shared) (u : Value), BindsTo s fd ⟨[u], []⟩ [(x, u)]) ∧ ∀ base : Heap, (K w.params).In base → base.Ns mainGlobals mg → FnG l.prog w (K w.params) mg base k fa fd [x] (sp (K w.params)))
    (want : ∀ (w : World) (H : Hp) (a : Addr) (ns : List Int), ns.length ≤ n → Only H → SqL (K w.params) H a (ns.map V.int) → sp (K w.params) [.ref a] H (fun v _ => v = .bl true) fun _ _ _ => False) :
    PySem.W.WalkO q loose XP YP l.row.toRowW d [] (fun f vs => PySem.call f vs) := by
  refine Att.attach_call most nodf ?_
  intro w s0 s1 mg mb fa o pm cd doc a vs ns G Y ho hd hcd hmg hobj iv len gens
  obtain ⟨fd, bn, hF⟩ := F w mg fa _ (hY w _ Y) G.T.g hmg
  exact call_top (hY w _ Y) G.T.g G.T.b G.T.builtins G.T.nolimit gens hobj iv (Nat.le_trans len fits) room hF bn fun H only sq => want w H a ns len only sq
end G0

namespace G0
open PySem PySem.Spec PyProof.Rows L2
/-! ### calls whose last arguments are all given by name, in the parameters' sequence -/
structure KB (fd : FuncData) (ps ks : List Str) (n : Nat) : Prop where
  to : ∀ us ws : List Value, us.length = n → ws.length = ks.length → bindArgs fd ⟨us, ks.zip ws⟩ = pure (ps.zip (us ++ ws))
theorem kb_of {K : PySem.W.Frag} {x qual : Str} {st : Stmt} {f : Addr} {fd : FuncData} {ps ks : List Str} {n : Nat} (F : Fun K x qual st f fd)
    (h : ∀ (kV doc pm : Value) (an : Option Addr) (cdv ct : Value) (us ws : List Value), us.length = n → ws.length = ks.length → bindArgs (PySem.W.fnOf x qual (defArgs st) (defBody st) (defScope st) .none kV doc pm an cdv ct) ⟨us, ks.zip ws⟩ = pure (ps.zip (us ++ ws))) : KB fd ps ks n := by
  obtain ⟨oc, od, kV, doc, pm, an, cdv, ct, osl, rfl, _, _⟩ := F.ex
  exact ⟨h kV doc pm an cdv ct⟩
section
variable {X : Cx} {k n : Nat} {f C : Addr} {fd : FuncData} {ps ks : List Str} {sp : Sp} {E : XK} {x m : Str} {p pos apos : Pos} {e o : Expr} {kws : List Keyword} {ta : TE} {tk : TA}
theorem run_kb {pn : List (Addr × Obj)} {σ : L2.St} {H : Hp} {s : Shared} {Q : VK} {us ws : List Value} {vs zs : List V} (F : FnOk X.prog X.w X.K X.mg X.base CX0 k f fd ps sp) (room : Room k X.A) (bn : KB fd ps ks n)
    (J : Inv X pn σ H s) (rv : Vals vs us) (rz : Vals zs ws) (l1 : vs.length = n) (l2 : zs.length = ks.length) (want : sp (vs ++ zs) H Q E) : wpAny (model X.prog X.w) X.A (call (.ref f) us (ks.zip ws)) (EP X pn σ Q) X.xe s := by
  refine wpAny_call (codeAny_mono (F.run X.A X.stack s H ⟨us, ks.zip ws⟩ (us ++ ws) (vs ++ zs) Q E room J.env0 (.of_eq (bn.to us ws (rv.length.symm.trans l1) (rz.length.symm.trans l2))) (rv.append rz) want) fun res s2 got => ?_)
  match res, got with
  | .error _, got => exact got.elim
  | .ok (.ret _), got => exact J.after got
  | .ok .next, got => exact got.elim
  | .ok .brk, got => exact got.elim
  | .ok .cont, got => exact got.elim
/-- f(k = v, ..) -/
def tCallN (sp : Sp) (n : Nat) (E : XK) (tk : TA) : TE := fun σ H Q => tk σ H fun zs H1 => zs.length = n ∧ sp zs H1 Q E
theorem pe_callN (F : FnOk X.prog X.w X.K X.mg X.base CX0 k f fd ps sp) (room : Room k X.A) (gl : Gl X x) (at_ : X.mg x = some (.ref f)) (kp : PySem.W.keepIn X.K (.ref f) = true) (bn : KB fd ps ks 0) (pk : PK X kws tk)
    (hall : (backToKw pos (keywordEach kws X.env)).all (·.1.isSome) = true := by rfl) (hks : (backToKw pos (keywordEach kws X.env)).filterMap (·.1) = ks := by rfl) (hdb : (x == ("__debug__" : Str)) = false := by decide)
    (hpl : ((backTo pos (starEach [] X.env)).any (·.1) || (backToKw pos (keywordEach kws X.env)).any (·.1.isNone)) = false := by rfl) : PE X (.Call (.Name x p) [] kws pos) (tCallN sp ks.length E tk) := by
  constructor
  intro pn s σ H Q J want
  apply wpAny_Call_Name_kw
  refine ld_glob J gl at_ ?_ hdb
  refine PySem.W.callWith_KW0 (h₀ := X.base) J.ok.mod.kin kp hall ?_ hpl
  refine thn (pk.run pos pn s σ H _ J want) ?_
  rintro ws s2 ⟨zs, H2, J2, rz, l2, q2⟩
  rw [hks]
  exact ⟨J2.kIn, run_kb (us := []) (vs := []) F room bn J2 .nil rz rfl l2 q2⟩
/-- o.m(k = v, ..) -/
def tMethN (C : Addr) (m : Str) (sp : Sp) (n : Nat) (E : XK) (ta : TE) (tk : TA) : TE := fun σ H Q => ta σ H fun x H1 => ∃ a dx fs, x = .ref a ∧ H1 a = some (.ins C dx fs) ∧ fs.lookup m = none ∧ tk σ H1 fun zs H2 => zs.length = n ∧ sp (x :: zs) H2 Q E
theorem pe_methN {pl : Sem Bool} (po : PE X o ta) (c : Cls X.K C) (hm : Meth X.K C m f) (F : FnOk X.prog X.w X.K X.mg X.base CX0 k f fd ps sp) (room : Room k X.A) (bn : KB fd ps ks 1) (pk : PK X kws tk)
    (hall : (backToKw pos (keywordEach kws X.env)).all (·.1.isSome) = true := by rfl) (hks : (backToKw pos (keywordEach kws X.env)).filterMap (·.1) = ks := by rfl)
    (hpl : ((backTo pos (starEach [] X.env)).any (·.1) || (backToKw pos (keywordEach kws X.env)).any (·.1.isNone)) = false := by rfl)
    (ht : eval (.Call (.Attribute o m apos) [] kws pos) X.env = (do
      let ov ← eval o X.env
      standAt apos.atName
      let (g, first) ← holding [ov] (getMethod ov m pl)
      callWith pos g first (backTo pos (starEach [] X.env)) (backToKw pos (keywordEach kws X.env))) := by rfl) :
    PE X (.Call (.Attribute o m apos) [] kws pos) (tMethN C m sp ks.length E ta tk) := by
  constructor
  intro pn s σ H Q J want
  refine PySem.W.methodCall_KW (pl := pl) (thn (po.run pn s σ H _ J want) ?_) ht
  rintro u s1 ⟨x, H1, J1, rx, a, dx, fs, rfl, ea, l, q⟩
  obtain rfl : u = Value.ref a := rx
  refine getmeth_ok J1 ea c hm l ?_
  refine PySem.W.callWith_KW0 (first := [.ref a]) (h₀ := X.base) J1.ok.mod.kin hm.kp hall ?_ hpl
  refine thn (pk.run pos pn s1 σ H1 _ J1 q) ?_
  rintro ws s2 ⟨zs, H2, J2, rz, l2, q2⟩
  rw [hks]
  refine ⟨J2.kIn, ?_⟩
  exact run_kb (us := [.ref a]) (vs := [.ref a]) F room bn J2 (.cons rfl .nil) rz rfl l2 q2
end

/-! ### data in the heap -/
theorem same_new {H : Hp} {q : Addr} {o : HO} (h : H q = none) : Same H (upd H q o) := fun b u e => by
  rw [upd_ne (ne_of_none e h)]
  exact e
theorem same_t {K : PySem.W.Frag} {H H' : Hp} {a : Addr} {xs : List V} (e : Same H H') (h : SqT K H a xs) : SqT K H' a xs := by
  rcases h with (h | ⟨o, h⟩) | h
  · exact .inl (.inl (e _ _ h))
  · exact .inl (.inr ⟨o, e _ _ h⟩)
  · exact .inr h
/-- a list or a tuple -/
def Sq (K : PySem.W.Frag) (H : Hp) (a : Addr) (xs : List V) : Prop := SqL K H a xs ∨ SqT K H a xs
theorem Sq.same {K : PySem.W.Frag} {H H' : Hp} {a : Addr} {xs : List V} (e : Same H H') (h : Sq K H a xs) : Sq K H' a xs := h.imp e.seq (same_t e)
theorem SqT.mk {K : PySem.W.Frag} {H : Hp} {a : Addr} {xs : List V} (h : H a = some (.tup xs)) : SqT K H a xs := .inl (.inl h)
theorem SqL.mk {K : PySem.W.Frag} {H : Hp} {a : Addr} {xs : List V} (h : H a = some (.lst xs)) : SqL K H a xs := .inl (.inl h)
mutual
theorem Dp.same {K : PySem.W.Frag} {H H' : Hp} (e : Same H H') : ∀ {v : V} {d : PyData}, Dp K H v d → Dp K H' v d
  | _, _, .non => .non
  | _, _, .bl b => .bl b
  | _, _, .int i => .int i
  | _, _, .str x => .str x
  | _, _, .lst h a => .lst (e.seq h) (DpAll.same e a)
  | _, _, .tup h a => .tup (same_t e h) (DpAll.same e a)
theorem DpAll.same {K : PySem.W.Frag} {H H' : Hp} (e : Same H H') : ∀ {vs : List V} {ds : List PyData}, DpAll K H vs ds → DpAll K H' vs ds
  | _, _, .nil => .nil
  | _, _, .cons h a => .cons (Dp.same e h) (DpAll.same e a)
end
theorem dp_ints {K : PySem.W.Frag} {H : Hp} : ∀ ns : List Int, DpAll K H (ns.map V.int) (ns.map PyData.int)
  | [] => .nil
  | n :: ns => .cons (.int n) (dp_ints ns)
/-- what a list, a tuple of ints is, as data -/
abbrev dTup (ns : List Int) : PyData := .tuple (ns.map .int)
abbrev dLst (ns : List Int) : PyData := .list (ns.map .int)
theorem dp_tup {K : PySem.W.Frag} {H : Hp} {a : Addr} {ns : List Int} (h : SqT K H a (ns.map V.int)) : Dp K H (.ref a) (dTup ns) := .tup h (dp_ints ns)
theorem dp_lst {K : PySem.W.Frag} {H : Hp} {a : Addr} {ns : List Int} (h : SqL K H a (ns.map V.int)) : Dp K H (.ref a) (dLst ns) := .lst h (dp_ints ns)
theorem eqv_ints : ∀ ns ms : List Int, PyData.eqvAll (ns.map PyData.int) (ms.map PyData.int) = decide (ns = ms)
  | [], [] => by simp [PyData.eqvAll]
  | [], _ :: _ => by simp [PyData.eqvAll]
  | _ :: _, [] => by simp [PyData.eqvAll]
  | n :: ns, m :: ms => by
    have ih := eqv_ints ns ms
    simp only [List.map_cons, PyData.eqvAll, PyData.eqv, ih, List.cons.injEq, Bool.decide_and]
    congr 1
theorem eqv_tup (ns ms : List Int) : PyData.eqv (dTup ns) (dTup ms) = decide (ns = ms) := by
  simp only [PyData.eqv, eqv_ints]
end G0

namespace G0
open PySem PySem.Spec PyProof.Rows L2
/-! ### data whose text is short enough -/
mutual
def szD : PyData → Nat
  | .none => 5
  | .bool _ => 5
  | .int _ => 1930
  | .str x => (reprText x).length
  | .list xs => szAll xs + 3
  | .tuple xs => szAll xs + 3
  | .dict _ => 0
def szAll : List PyData → Nat
  | [] => 0
  | x :: xs => szD x + 2 + szAll xs
end
theorem list_text (ts : List Str) : (listText ts).length ≤ piled ts + 2 := by
  unfold listText
  rw [strLen_append]
  have e1 : ((("[" : String) : Str)).length = 1 := rfl
  have e2 : ((("]" : String) : Str)).length = 1 := rfl
  cases ts with
  | nil =>
    show (("[" : String) : Str).length + _ ≤ _
    omega
  | cons t r =>
    show (textFrom 1 ((("[" : String) : Str) ++ ((if 0 > 0 then ", " else "" : String) : Str) ++ t) r).length + _ ≤ _
    have e3 : (((if 0 > 0 then ", " else "" : String) : Str)).length = 0 := rfl
    rw [textFrom_length_pos _ _ _ Nat.one_pos, strLen_append, strLen_append, piled_cons]
    omega
mutual
theorem shown_le : ∀ d : PyData, d.showable = true → d.hasDict = false → d.shown.length ≤ szD d
  | .none, _, _ => by
    simp only [PyData.shown, szD]
    decide
  | .bool b, _, _ => by
    cases b <;> simp only [PyData.shown, szD] <;> decide
  | .int i, h, _ => by
    simp only [PyData.shown, szD]
    simp only [PyData.showable, decide_eq_true_eq] at h
    have e := int_text_length_le (k := 1920) (by decide) h
    have e2 : ((toString i : String) : Str).length = (toString i).length := PySem.ofString_length _
    omega
  | .str x, _, _ => by
    simp only [PyData.shown, szD]
    exact Nat.le_refl _
  | .list xs, h, n => by
    simp only [PyData.showable] at h
    simp only [PyData.hasDict] at n
    simp only [PyData.shown, szD]
    have e1 := list_text (PyData.shownAll xs)
    have e2 := shownAll_le xs h n
    omega
  | .tuple xs, h, n => by
    simp only [PyData.showable] at h
    simp only [PyData.hasDict] at n
    simp only [PyData.shown, szD]
    have e1 := fmt_text (PyData.shownAll xs)
    have e2 := shownAll_le xs h n
    omega
  | .dict _, _, n => by
    simp only [PyData.hasDict] at n
    cases n
theorem shownAll_le : ∀ xs : List PyData, PyData.showableAll xs = true → PyData.hasDictAll xs = false → piled (PyData.shownAll xs) ≤ szAll xs
  | [], _, _ => by
    simp only [PyData.shownAll, szAll, piled_nil]
    exact Nat.le_refl _
  | x :: xs, h, n => by
    simp only [PyData.showableAll, Bool.and_eq_true] at h
    simp only [PyData.hasDictAll, Bool.or_eq_false_iff] at n
    have e1 := shown_le x h.1 n.1
    have e2 := shownAll_le xs h.2 n.2
    simp only [PyData.shownAll, szAll, piled_cons]
    omega
end
/-- short data, no dict in it: its repr is known -/
structure Fine (d : PyData) : Prop where
  sh : d.showable = true
  nd : d.hasDict = false
  dep : d.depth ≤ 16
  sz : szD d ≤ 10000000
theorem Fine.fit {d : PyData} (h : Fine d) : d.shown.length ≤ sizeLine := by
  have e := shown_le d h.sh h.nd
  have := h.sz
  rw [sizeLine_eq]
  omega
/-- a list of fine ones, no more than 4000 of them, deep and long as told -/
structure FineAll (ds : List PyData) (dep sz : Nat) : Prop where
  sh : PyData.showableAll ds = true
  nd : PyData.hasDictAll ds = false
  dep : PyData.depthAll ds ≤ dep
  sz : szAll ds ≤ sz
theorem FineAll.nil {dep sz : Nat} : FineAll [] dep sz := ⟨by simp only [PyData.showableAll], by simp only [PyData.hasDictAll], by simp only [PyData.depthAll]; exact Nat.zero_le _, by simp only [szAll]; exact Nat.zero_le _⟩
theorem FineAll.cons {d : PyData} {ds : List PyData} {dep s1 s2 : Nat} (h1 : d.showable = true) (h2 : d.hasDict = false) (h3 : d.depth ≤ dep) (h4 : szD d ≤ s1) (h : FineAll ds dep s2) : FineAll (d :: ds) dep (s1 + 2 + s2) := by
  refine ⟨?_, ?_, ?_, ?_⟩
  · simp only [PyData.showableAll, h1, h.sh, Bool.and_self]
  · simp only [PyData.hasDictAll, h2, h.nd, Bool.or_self]
  · simp only [PyData.depthAll]
    exact Nat.max_le.mpr ⟨h3, h.dep⟩
  · simp only [szAll]
    have := h.sz
    omega
theorem small_log {i : Int} (h : i.natAbs < 2 ^ 1919) : i.natAbs.log2 < 1920 := by
  by_cases e : i.natAbs = 0
  · rw [e]
    decide
  · exact (Nat.log2_lt e).mpr (Nat.lt_trans h (by decide +kernel))
/-- ints of up to 1900 bits -/
def Sm (ns : List Int) : Prop := ∀ n ∈ ns, n.natAbs < 2 ^ 1919
theorem fine_ints : ∀ {ns : List Int}, Sm ns → FineAll (ns.map PyData.int) 0 (1932 * ns.length)
  | [], _ => .nil
  | n :: ns, h => by
    have ih := fine_ints (ns := ns) fun m hm => h m (List.mem_cons_of_mem _ hm)
    have e := FineAll.cons (d := .int n) (dep := 0) (s1 := 1930) (by simp only [PyData.showable, decide_eq_true_eq]; exact small_log (h n List.mem_cons_self)) (by simp only [PyData.hasDict]) (by simp only [PyData.depth]; exact Nat.le_refl _) (by simp only [szD]; exact Nat.le_refl _) ih
    refine ⟨e.sh, e.nd, e.dep, Nat.le_trans e.sz ?_⟩
    rw [List.length_cons]
    omega
theorem Fine.tup {ds : List PyData} {dep sz : Nat} (h : FineAll ds dep sz) (h1 : dep ≤ 15) (h2 : sz + 3 ≤ 10000000) : Fine (.tuple ds) := by
  refine ⟨by simp only [PyData.showable]; exact h.sh, by simp only [PyData.hasDict]; exact h.nd, ?_, ?_⟩
  · have := h.dep
    simp only [PyData.depth]
    omega
  · have := h.sz
    simp only [szD]
    omega
theorem Fine.lst {ds : List PyData} {dep sz : Nat} (h : FineAll ds dep sz) (h1 : dep ≤ 15) (h2 : sz + 3 ≤ 10000000) : Fine (.list ds) := by
  refine ⟨by simp only [PyData.showable]; exact h.sh, by simp only [PyData.hasDict]; exact h.nd, ?_, ?_⟩
  · have := h.dep
    simp only [PyData.depth]
    omega
  · have := h.sz
    simp only [szD]
    omega
theorem fine_tup {ns : List Int} (h : Sm ns) (l : ns.length ≤ 5000) : Fine (dTup ns) := .tup (fine_ints h) (by decide) (by omega)
theorem fine_lst {ns : List Int} (h : Sm ns) (l : ns.length ≤ 5000) : Fine (dLst ns) := .lst (fine_ints h) (by decide) (by omega)
/-- repr of fine data -/
def rReprF (K : PySem.W.Frag) : List V → Hp → VK → Prop := fun xs H Q => ∃ (a : Addr) (d : PyData), xs = [.ref a] ∧ Dp K H (.ref a) d ∧ Fine d ∧ Q (.str d.shown) H
theorem call_repr {X : Cx} (gd : X.A.guards = some []) (hu : X.A.units + 64 < cLine) : CallR X (.builtin "repr") (rReprF X.K) := by
  intro pn s σ H xs us Q J rv h
  obtain ⟨a, d, e, dp, f, q⟩ := h
  exact cr_repr gd hu pn s σ H xs us Q J rv ⟨a, d, e, dp, f.sh, f.nd, f.dep, f.fit, q⟩
end G0

namespace G0
open PySem PySem.Spec PyProof.Rows L2
/-! ### comprehensions that only add: an item x gives what F says, or nothing -/
def fm (F : V → Option V) (xs : List V) : List V := xs.filterMap F
theorem fm_succ {F : V → Option V} {xs : List V} {i : Nat} {x : V} (h : xs[i]? = some x) : fm F (xs.take (i + 1)) = fm F (xs.take i) ++ (match F x with | some y => [y] | none => []) := by
  unfold fm
  rw [List.take_add_one, h, List.filterMap_append]
  congr 1
  simp only [Option.toList]
  cases e : F x <;> simp [e]
theorem fm_len (F : V → Option V) (xs : List V) (i : Nat) : (fm F (xs.take i)).length ≤ xs.length :=
  Nat.le_trans (List.length_filterMap_le ..) (by rw [List.length_take]; exact Nat.min_le_right _ _)
section
variable {K : PySem.W.Frag} {a : Addr} {xs : List V} {g : TG} {tt : TT} {te : TE} {vs : List Nat} {σ : L2.St} {H1 : Hp} {D : Addr} {Qd : Hp → Prop}
/-- one turn, whatever follows -/
def Turn1 (g : TG) (tt : TT) (te : TE) (vs : List Nat) (σ : L2.St) (F : V → Option V) (x : V) (H : Hp) : Prop :=
  ∀ (G : V → Hp → Prop) (N : Hp → Prop), (F x = none → ∀ H', Same H H' → N H') → (∀ y, F x = some y → ∀ H', Same H H' → G y H') → g x (wipe σ vs) H fun σ2 H2 => wipe σ2 vs = wipe σ vs ∧ tt σ2 H2 fun b H3 => if b = true then te σ2 H3 G else N H3
theorem turn_fm {n : Nat} (F : V → Option V) (hn : xs.length < sizeLine) {i : Nat} {x : V} {H : Hp} {N1 : Hp → Prop} (hx : xs[i]? = some x) (hsame : Same H1 H) (hD1 : H1 D = none) (hD : H D = some (.lst (fm F (xs.take i)))) (t : Turn1 g tt te vs σ F x H)
    (nx : ∀ H', Same H1 H' → H' D = some (.lst (fm F (xs.take (i + 1)))) → N1 H') :
    g x (wipe σ vs) H fun σ2 H2 => wipe σ2 vs = wipe σ vs ∧ tt σ2 H2 fun b H3 => if b = true then te σ2 H3 fun y H4 => ∃ acc, H4 D = some (.lst acc) ∧ acc.length < sizeLine ∧ N1 (upd H4 D (.lst (acc ++ [y]))) else N1 H3 := by
  refine t _ _ (fun e H' s => ?_) (fun y e H' s => ?_)
  · refine nx H' (hsame.trans s) ?_
    rw [fm_succ hx, e, List.append_nil]
    exact s _ _ hD
  · refine ⟨_, s _ _ hD, Nat.lt_of_le_of_lt (fm_len F xs i) hn, nx _ (fun b o eb => ?_) ?_⟩
    · rw [upd_ne (ne_of_none eb hD1)]
      exact s _ _ (hsame _ _ eb)
    · rw [upd_same, fm_succ hx, e]
theorem lcL (F : V → Option V) (hl : SqL K H1 a xs) (hn : xs.length < sizeLine) (hD : H1 D = none) (t : ∀ x, x ∈ xs → ∀ H, Same H1 H → Turn1 g tt te vs σ F x H) (hd : ∀ H, Same H1 H → H D = some (.lst (fm F xs)) → Qd H) :
    ∃ W : Nat → Nat → Hp → Prop, (∃ m, W 0 m (upd H1 D (.lst []))) ∧ ∀ i m H, W i m H →
      ((Itl K a).stop i H ∧ Qd H) ∨ ((Itl K a).go i H ∧ ∃ Nx : Hp → Prop, (∀ H', Nx H' → ∃ m', m' < m ∧ W (i + 1) m' H') ∧ ∀ x H', (Itl K a).yld i H x H' → g x (wipe σ vs) H' fun σ2 H2 => wipe σ2 vs = wipe σ vs ∧ tt σ2 H2 fun b H3 =>
        if b = true then te σ2 H3 fun y H4 => ∃ acc, H4 D = some (.lst acc) ∧ acc.length < sizeLine ∧ Nx (upd H4 D (.lst (acc ++ [y]))) else Nx H3) :=
  lc_list (xs := xs) (fun i H => Same H1 H ∧ H D = some (.lst (fm F (xs.take i)))) ⟨same_new hD, upd_same⟩ (fun _ _ _ h => h.1.seq hl)
    (fun i x H hx h => turn_fm (n := 0) F hn hx h.1 hD h.2 (t x (List.mem_of_getElem? hx) H h.1) fun H' s d => ⟨s, d⟩) (fun H h => hd H h.1 (by rw [h.2, List.take_length]))
theorem lcT (F : V → Option V) (hl : SqT K H1 a xs) (hn : xs.length < sizeLine) (hD : H1 D = none) (t : ∀ x, x ∈ xs → ∀ H, Same H1 H → Turn1 g tt te vs σ F x H) (hd : ∀ H, Same H1 H → H D = some (.lst (fm F xs)) → Qd H) :
    ∃ W : Nat → Nat → Hp → Prop, (∃ m, W 0 m (upd H1 D (.lst []))) ∧ ∀ i m H, W i m H →
      ((Itt K a).stop i H ∧ Qd H) ∨ ((Itt K a).go i H ∧ ∃ Nx : Hp → Prop, (∀ H', Nx H' → ∃ m', m' < m ∧ W (i + 1) m' H') ∧ ∀ x H', (Itt K a).yld i H x H' → g x (wipe σ vs) H' fun σ2 H2 => wipe σ2 vs = wipe σ vs ∧ tt σ2 H2 fun b H3 =>
        if b = true then te σ2 H3 fun y H4 => ∃ acc, H4 D = some (.lst acc) ∧ acc.length < sizeLine ∧ Nx (upd H4 D (.lst (acc ++ [y]))) else Nx H3) :=
  lc_tup (xs := xs) (fun i H => Same H1 H ∧ H D = some (.lst (fm F (xs.take i)))) ⟨same_new hD, upd_same⟩ (fun _ _ _ h => same_t h.1 hl)
    (fun i x H hx h => turn_fm (n := 0) F hn hx h.1 hD h.2 (t x (List.mem_of_getElem? hx) H h.1) fun H' s d => ⟨s, d⟩) (fun H h => hd H h.1 (by rw [h.2, List.take_length]))
end
theorem fm_map (f : V → V) : ∀ xs : List V, fm (fun x => some (f x)) xs = xs.map f
  | [] => rfl
  | x :: xs => by
    show f x :: fm _ xs = f x :: xs.map f
    rw [fm_map f xs]
/-- types of what stands in lists and tuples -/
theorem ty_l {K : PySem.W.Frag} {H : Hp} {a : Addr} {xs : List V} (h : SqL K H a xs) : TyX K H (.ref a) (.type "list") := by
  rcases h with (h | ⟨o, h⟩) | h
  · exact .base (.lst h)
  · exact .base (.frz h)
  · obtain ⟨o, its, n, hk, hc, _⟩ := h
    exact .kList hk hc
theorem ty_t {K : PySem.W.Frag} {H : Hp} {a : Addr} {xs : List V} (h : SqT K H a xs) : TyX K H (.ref a) (.type "tuple") := by
  rcases h with (h | ⟨o, h⟩) | h
  · exact .base (.tup h)
  · exact .fTuple h
  · obtain ⟨o, its, n, hk, hc, _⟩ := h
    exact .kTuple hk hc
end G0

namespace G0
open PySem PySem.Spec PyProof.Rows L2
/-! ### any(xs), xs ints in a list or a tuple -/
theorem truths {prog : Program} {w : World} {A : Around} : ∀ {ns : List Int} {its : List Value}, Vals (ns.map V.int) its → TruthOf prog w A (fun i v => its.toArray[i]? = some v) (fun i => ns.getD i 0 != 0) := by
  intro ns its rv i v s Q E hv hq
  have hv' : its[i]? = some v := by simpa using hv
  have look : ∀ {ms : List Int} {us : List Value} {j : Nat}, Vals (ms.map V.int) us → us[j]? = some v → ∃ n t, ms[j]? = some n ∧ v = .int n t := by
    intro ms
    induction ms with
    | nil =>
      intro us j r h
      cases r
      cases h
    | cons m ms ih =>
      intro us j r h
      cases r with
      | cons r1 r2 =>
        cases j with
        | zero =>
          obtain ⟨t, rfl⟩ := r1
          cases h
          exact ⟨m, t, rfl, rfl⟩
        | succ j => exact ih r2 h
  obtain ⟨n, t, hn, rfl⟩ := look rv hv'
  have hg : ns.getD i 0 = n := by
    rw [List.getD_eq_getElem?_getD, hn]
    rfl
  have hq2 : Q (ns.getD i 0 != 0) s := hq
  rw [hg] at hq2
  exact PyProof.Rows.truthy_int hq2
theorem any_ints : ∀ ns : List Int, ((List.range ns.length).any fun i => ns.getD i 0 != 0) = ns.any fun n => n != 0
  | [] => rfl
  | n :: ns => by
    rw [List.length_cons, List.range_succ_eq_map, List.any_cons, List.any_map, List.any_cons, ← any_ints ns]
    all_goals rfl
section
variable {X : Cx}
def rAnyI (K : PySem.W.Frag) : List V → Hp → VK → Prop := fun vs H Q => ∃ (a : Addr) (ns : List Int), vs = [V.ref a] ∧ Sq K H a (ns.map V.int) ∧ Q (.bl (ns.any fun n => n != 0)) H
theorem cr_anyI (calm : X.calm = true) : CallR X (.builtin "any") (rAnyI X.K) := by
  intro pn s σ H vs us Q J r h
  obtain ⟨a, ns, rfl, hs, q⟩ := h
  rw [Vals.ref1 r]
  rcases hs with hs | hs
  · obtain ⟨its, rv, hl, _⟩ := J.list hs
    have lv := rv.length
    refine call_any_walk (iter_any hl.isList fun s2 e2 st hne => ?_)
    subst e2
    refine ⟨_, _, _, _, _, _, _, rfl, Walks.list (A := X.A.in1) (J.ok.hd calm) _ a hne its.toArray, st, truths rv, fun h2 tk hk => ?_⟩
    refine ⟨.bl _, H, J.kept fun b o eo => hk b o (fun mem => ?_) (Heap.get?_push_of_some _ eo), ?_, q⟩
    · rcases List.mem_cons.mp mem with e1 | mem
      · exact absurd (e1 ▸ Heap.lt_size eo) (Nat.lt_irrefl _)
      · cases mem
    · rw [List.size_toArray, ← lv, List.length_map, any_ints]
      rfl
  · obtain ⟨its, rv, hl, _⟩ := J.tuple hs
    have lv := rv.length
    obtain ⟨o1, ho1, hc1, n1, hd1⟩ := hl
    have hT : s.heap.IsTuple a its.toArray := ⟨o1, ho1, hc1, n1, hd1⟩
    have hlt : a < s.heap.objs.size := Heap.lt_size ho1
    refine call_any_walk (wpAny_pyIter_tuple hT ?_)
    refine ⟨_, _, _, _, _, _, _, rfl, Walks.tuple (A := X.A.in1) (J.ok.hd calm) _ a (Nat.ne_of_lt hlt) its.toArray, ⟨⟨_, Heap.get?_push_size _ rfl, rfl, rfl⟩, hT.push _⟩, truths rv, fun h2 tk hk => ?_⟩
    refine ⟨.bl _, H, J.kept fun b o eo => hk b o (fun mem => ?_) (Heap.get?_push_of_some _ eo), ?_, q⟩
    · rcases List.mem_cons.mp mem with e1 | mem
      · exact absurd (e1 ▸ Heap.lt_size eo) (Nat.lt_irrefl _)
      · cases mem
    · rw [List.size_toArray, ← lv, List.length_map, any_ints]
      rfl
end
end G0

namespace G0
open PySem PySem.Spec PyProof.Rows L2
def top (i : Nat) : Stmt := PySem.Challenge.pw_pointrows_k21_whole_points_told.main.body.getD i (.Pass ⟨0, 0, 0, 0⟩)
abbrev s_is_integer : Stmt := top 3
abbrev s_is_list : Stmt := top 4
abbrev s_divisor : Stmt := top 10
abbrev s_plain : Stmt := top 11
abbrev s_is_three : Stmt := top 13
abbrev s_is_point : Stmt := top 16
abbrev s_told_point : Stmt := top 17

/-- a def of the top: where it stands, that its name tells it, how it binds -/
structure Df (K : PySem.W.Frag) (mg : Str → Option Value) (x : Str) (st : Stmt) (ps : List Str) (f : Addr) (fd : FuncData) : Prop where
  F : Fun K x x st f fd
  g : mg x = some (.ref f)
  b : Binds K fd ps []
theorem pdf {X : Cx} {k : Nat} {f : Addr} {fd : FuncData} {ps : List Str} {sp : Sp} {x : Str} {st : Stmt} {p pos : Pos} {e : Expr} {es : List Expr} {t : TA} (D : Df X.K X.mg x st ps f fd) (G : FnOk X.prog X.w X.K X.mg X.base CX0 k f fd ps sp) (hr : Room k X.A) (ha : PA X (e :: es) t) (hg : Gl X x := by rfl)
    (hdb : (x == ("__debug__" : Str)) = false := by decide) (he : starEach (e :: es) X.env = (false, eval e X.env) :: starEach es X.env := by rfl) (hpl : (backTo pos (starEach es X.env)).any (·.1) = false := by rfl) :
    PE X (.Call (.Name x p) (e :: es) [] pos) (tCall sp [] E0 t) := pe_call G hr hg D.g D.F.kp D.b .nil pass0 ha hdb he hpl
/-- the built-in names are the built-in ones still -/
structure Blt (mg : Str → Option Value) : Prop where
  isinstance : mg "isinstance" = none
  int : mg "int" = none
  bool : mg "bool" = none
  list : mg "list" = none
  tuple : mg "tuple" = none
  len : mg "len" = none
  all : mg "all" = none
  any : mg "any" = none
  abs : mg "abs" = none
  max : mg "max" = none
  min : mg "min" = none
  divmod : mg "divmod" = none
  range : mg "range" = none
  repr : mg "repr" = none
  enumerate : mg "enumerate" = none

section
variable {P : Program} {w : World} {K : PySem.W.Frag} {mg : Str → Option Value} {base : Heap}
theorem pty {X : Cx} {x : Str} {p : Pos} {n : String} (hm : X.mg x = none) (hv : bootBuiltins x = some (.type n)) (hg : Gl X x := by rfl) (hn : x ≠ "__name__" := by decide) (hdb : (x == ("__debug__" : Str)) = false := by decide) : PE X (.Name x p) (tC (.ty n)) :=
  pe_bltn hg hm hv (show RelV (.ty n) (.type n) from rfl) hn hdb
theorem boot_isi : bootBuiltins "isinstance" = some (.builtin "isinstance") := by decide +kernel
theorem boot_tint : bootBuiltins "int" = some (.type "int") := by decide +kernel
theorem boot_tbool : bootBuiltins "bool" = some (.type "bool") := by decide +kernel
theorem boot_tlist : bootBuiltins "list" = some (.type "list") := by decide +kernel
theorem boot_ttuple : bootBuiltins "tuple" = some (.type "tuple") := by decide +kernel
theorem boot_all : bootBuiltins "all" = some (.builtin "all") := by decide +kernel
theorem boot_any : bootBuiltins "any" = some (.builtin "any") := by decide +kernel
theorem kit_ii : PySem.W.kitOne K (.type "int") (.type "int") = some true := kit_ty (by decide +kernel)
theorem kit_ib : PySem.W.kitOne K (.type "int") (.type "bool") = some false := kit_ty (by decide +kernel)
theorem kit_ll : PySem.W.kitOne K (.type "list") (.type "list") = some true := kit_ty (by decide +kernel)
theorem kit_tl : PySem.W.kitOne K (.type "tuple") (.type "list") = some false := kit_ty (by decide +kernel)
theorem kit_tt : PySem.W.kitOne K (.type "tuple") (.type "tuple") = some true := kit_ty (by decide +kernel)

/-! is_integer of an int -/
def sp_is_integer : Sp := fun vs H Q _ => ∃ n : Int, vs = [.int n] ∧ Q (.bl true) H
theorem sc_is_integer : FnScope ["value"] ["value"] (defScope s_is_integer) := ⟨rfl, rfl, rfl, by decide +kernel, rfl, by decide +kernel, by decide +kernel⟩
theorem ok_is_integer {f : Addr} {fd : FuncData} (F : Fun K "is_integer" "is_integer" s_is_integer f fd) (B : Blt mg) : FnOk P w K mg base CX0 1 f fd ["value"] sp_is_integer := by
  refine F.ok sc_is_integer (fun vs H Q E h => ?_) (fun cdv A outer s H vs Q E hr h => ?_)
  · obtain ⟨n, rfl, _⟩ := h
    rfl
  · obtain ⟨n, rfl, q⟩ := h
    refine ⟨_, pss_one (ps_ret (pe_and (pe_callB call_isi (by rfl) B.isinstance boot_isi (pa_cons (pv 0) (pa_cons (pty B.int boot_tint) pa_nil)))
      (pe_one (pe_not (pe_callB call_isi (by rfl) B.isinstance boot_isi (pa_cons (pv 0) (pa_cons (pty B.bool boot_tbool) pa_nil))))))), ?_⟩
    refine ⟨_, rfl, _, _, _, _, true, rfl, .ty "int", .base (.int n), kit_ii, true, rfl, iteT ?_⟩
    exact ⟨_, rfl, _, _, _, _, false, rfl, .ty "bool", .base (.int n), kit_ib, false, rfl, q⟩

/-! is_list of a list or a tuple -/
def sp_is_list (K : PySem.W.Frag) : Sp := fun vs H Q _ => ∃ (a : Addr) (xs : List V), vs = [.ref a] ∧ Sq K H a xs ∧ ∀ H', Same H H' → Q (.bl true) H'
theorem sc_is_list : FnScope ["value"] ["value"] (defScope s_is_list) := ⟨rfl, rfl, rfl, by decide +kernel, rfl, by decide +kernel, by decide +kernel⟩
theorem ok_is_list {f : Addr} {fd : FuncData} (F : Fun K "is_list" "is_list" s_is_list f fd) (B : Blt mg) : FnOk P w K mg base CX0 1 f fd ["value"] (sp_is_list K) := by
  refine F.ok sc_is_list (fun vs H Q E h => ?_) (fun cdv A outer s H vs Q E hr h => ?_)
  · obtain ⟨a, xs, rfl, _⟩ := h
    rfl
  · obtain ⟨a, xs, rfl, hs, q⟩ := h
    refine ⟨_, pss_one (ps_ret (pe_callB call_isiT (by rfl) B.isinstance boot_isi (pa_cons (pv 0) (pa_cons (pe_tup (pa_cons (pty B.list boot_tlist) (pa_cons (pty B.tuple boot_ttuple) pa_nil))) pa_nil)))), ?_⟩
    refine ⟨_, rfl, by show 2 ≤ sizeLine; decide, fun p hp => ?_⟩
    have s1 : Same H (upd H p (.tup [.ty "list", .ty "tuple"])) := same_new hp
    have q1 := q _ s1
    rcases hs with hs | hs
    · exact ⟨_, p, _, _, _, true, rfl, upd_same, .cons (.ty "list") (.cons (.ty "tuple") .nil), ty_l (s1.seq hs), kitAny_cons kit_ll (fun z => nomatch z) fun _ => rfl, q1⟩
    · exact ⟨_, p, _, _, _, true, rfl, upd_same, .cons (.ty "list") (.cons (.ty "tuple") .nil), ty_t (same_t s1 hs), kitAny_cons (r := true) kit_tl (fun _ => kitAny_cons kit_tt (fun z => nomatch z) fun _ => rfl) (fun z => nomatch z), q1⟩

/-! is_three of three ints -/
def sp_is_three (K : PySem.W.Frag) : Sp := fun vs H Q _ => ∃ (p : Addr) (a b c : Int), vs = [.ref p] ∧ Sq K H p ([a, b, c].map V.int) ∧ ∀ H', Same H H' → Q (.bl true) H'
theorem sc_is_three : FnScope ["value", "number"] ["value"] (defScope s_is_three) := ⟨rfl, rfl, rfl, by decide +kernel, rfl, by decide +kernel, by decide +kernel⟩
theorem ok_is_three {f f1 f2 : Addr} {fd fd1 fd2 : FuncData} (F : Fun K "is_three" "is_three" s_is_three f fd) (B : Blt mg) (D1 : Df K mg "is_integer" s_is_integer ["value"] f1 fd1) (D2 : Df K mg "is_list" s_is_list ["value"] f2 fd2) :
    FnOk P w K mg base CX0 2 f fd ["value"] (sp_is_three K) := by
  have G1 : FnOk P w K mg base CX0 1 f1 fd1 ["value"] sp_is_integer := ok_is_integer D1.F B
  have G2 : FnOk P w K mg base CX0 1 f2 fd2 ["value"] (sp_is_list K) := ok_is_list D2.F B
  refine F.ok sc_is_three (fun vs H Q E h => ?_) (fun cdv A outer s H vs Q E hr h => ?_)
  · obtain ⟨p, a, b, c, rfl, _⟩ := h
    rfl
  · obtain ⟨p, a, b, c, rfl, hs, q⟩ := h
    have turn : ∀ x, x ∈ [V.int a, V.int b, V.int c] → ∀ H1 : Hp, Turn1 (gName 1) tYes (tCall sp_is_integer [] E0 (tCons (tVar 1) tNil)) [1] [some (.ref p), none] (fun _ => some (.bl true)) x H1 := by
      intro x hx H1 G N h1 h2
      have hi : ∃ n, x = .int n := by
        simp only [List.mem_cons, List.not_mem_nil, or_false] at hx
        rcases hx with rfl | rfl | rfl <;> exact ⟨_, rfl⟩
      obtain ⟨n, rfl⟩ := hi
      refine ⟨rfl, iteT (B := N H1) ?_⟩
      exact ⟨_, rfl, n, rfl, h2 _ rfl _ (Same.refl _)⟩
    rcases hs with hs | hs
    · refine ⟨_, pss_one (ps_ret (pe_and (pdf D2 G2 hr (pa_cons (pv 0) pa_nil)) (pe_and (pe_cmpR op_eq (pe_callB call_len_seq (by rfl) B.len PySem.boot_len (pa_cons (pv 0) pa_nil)) pe_int (nomark _))
        (pe_one (pe_callB (cr_all rfl) (by rfl) B.all boot_all (pa_cons (pe_lc (own := [("number", 1)]) (g := gName 1) (tt := tYes) rfl sc_is_three.nd (pi_list (pv 0)) (blkOk_by (N := ["value", "number"]) (sc := defScope s_is_three) (by decide +kernel)) (fun _ _ _ _ _ => pg_name (i := 1) sc_is_three.nd rfl (Or.inl rfl))
          (fun _ _ _ _ _ => pts_nil) (fun _ _ _ _ _ => pdf D1 G1 hr (pa_cons (pv 1) pa_nil))) pa_nil)))))), ?_⟩
      refine ⟨_, rfl, p, _, rfl, .inl hs, fun H1 s1 => ⟨true, rfl, iteT ?_⟩⟩
      refine ⟨_, rfl, p, _, rfl, .inl (s1.seq hs), rfl, true, rfl, iteT ?_⟩
      refine ⟨_, rfl, p, rfl, ⟨_, s1.seq hs⟩, fun D hD => lcL (fun _ => some (.bl true)) (s1.seq hs) (by show 3 < sizeLine; decide) hD (fun x hx H2 _ => turn x hx H2) fun H2 s2 h2 => ?_⟩
      exact ⟨D, [true, true, true], rfl, SqL.mk h2, q _ (s1.trans s2)⟩
    · refine ⟨_, pss_one (ps_ret (pe_and (pdf D2 G2 hr (pa_cons (pv 0) pa_nil)) (pe_and (pe_cmpR op_eq (pe_callB call_len_seq (by rfl) B.len PySem.boot_len (pa_cons (pv 0) pa_nil)) pe_int (nomark _))
        (pe_one (pe_callB (cr_all rfl) (by rfl) B.all boot_all (pa_cons (pe_lc (own := [("number", 1)]) (g := gName 1) (tt := tYes) rfl sc_is_three.nd (pi_tup (pv 0)) (blkOk_by (N := ["value", "number"]) (sc := defScope s_is_three) (by decide +kernel)) (fun _ _ _ _ _ => pg_name (i := 1) sc_is_three.nd rfl (Or.inl rfl))
          (fun _ _ _ _ _ => pts_nil) (fun _ _ _ _ _ => pdf D1 G1 hr (pa_cons (pv 1) pa_nil))) pa_nil)))))), ?_⟩
      refine ⟨_, rfl, p, _, rfl, .inr hs, fun H1 s1 => ⟨true, rfl, iteT ?_⟩⟩
      refine ⟨_, rfl, p, _, rfl, .inr (same_t s1 hs), rfl, true, rfl, iteT ?_⟩
      refine ⟨_, rfl, p, rfl, ⟨_, same_t s1 hs⟩, fun D hD => lcT (fun _ => some (.bl true)) (same_t s1 hs) (by show 3 < sizeLine; decide) hD (fun x hx H2 _ => turn x hx H2) fun H2 s2 h2 => ?_⟩
      exact ⟨D, [true, true, true], rfl, SqL.mk h2, q _ (s1.trans s2)⟩
end
end G0

namespace G0
open PySem PySem.Spec PyProof.Rows L2
/-! ### the mathematics of told points -/
def gcdL (ns : List Int) : Int := ns.foldl (fun c n => ((Nat.gcd c.natAbs n.natAbs : Nat) : Int)) 0
def firstN (ns : List Int) : Int := (ns.filter fun n => decide (n ≠ 0)).headD 0
def signed (ns : List Int) : Int := if firstN ns < 0 then -gcdL ns else gcdL ns
def plainI (ns : List Int) : List Int := ns.map fun n => n.fdiv (signed ns)
theorem gcd_fold : ∀ (ns : List Int) (c : Int), 0 ≤ c → 0 ≤ ns.foldl (fun c n => ((Nat.gcd c.natAbs n.natAbs : Nat) : Int)) c ∧ (ns.foldl (fun c n => ((Nat.gcd c.natAbs n.natAbs : Nat) : Int)) c ∣ c) ∧ ∀ n ∈ ns, ns.foldl (fun c n => ((Nat.gcd c.natAbs n.natAbs : Nat) : Int)) c ∣ n
  | [], c, h => ⟨h, Int.dvd_refl c, fun _ z => nomatch z⟩
  | m :: ns, c, h => by
    obtain ⟨h1, h2, h3⟩ := gcd_fold ns ((Nat.gcd c.natAbs m.natAbs : Nat) : Int) (Int.natCast_nonneg _)
    have a1 : ((Nat.gcd c.natAbs m.natAbs : Nat) : Int) ∣ c := Int.ofNat_dvd_left.mpr (Nat.gcd_dvd_left _ _)
    have a2 : ((Nat.gcd c.natAbs m.natAbs : Nat) : Int) ∣ m := Int.ofNat_dvd_left.mpr (Nat.gcd_dvd_right _ _)
    refine ⟨h1, Int.dvd_trans h2 a1, fun n hn => ?_⟩
    rcases List.mem_cons.mp hn with rfl | hn
    · exact Int.dvd_trans h2 a2
    · exact h3 n hn
theorem gcdL_nonneg (ns : List Int) : 0 ≤ gcdL ns := (gcd_fold ns 0 (Int.le_refl _)).1
theorem gcdL_dvd {ns : List Int} {n : Int} (h : n ∈ ns) : gcdL ns ∣ n := (gcd_fold ns 0 (Int.le_refl _)).2.2 n h
theorem gcdL_pos {ns : List Int} (h : ∃ n ∈ ns, n ≠ 0) : 0 < gcdL ns := by
  obtain ⟨n, hn, h0⟩ := h
  have d := gcdL_dvd hn
  have p := gcdL_nonneg ns
  have ne : gcdL ns ≠ 0 := fun e => h0 (by rw [e] at d; exact Int.zero_dvd.mp d)
  omega
theorem gcdL_le {ns : List Int} {n : Int} (h : n ∈ ns) (h0 : n ≠ 0) : (gcdL ns).natAbs ≤ n.natAbs := Nat.le_of_dvd (Int.natAbs_pos.mpr h0) (Int.natAbs_dvd_natAbs.mpr (gcdL_dvd h))
theorem gcdL_take {ns : List Int} {i : Nat} {n : Int} (h : ns[i]? = some n) : gcdL (ns.take (i + 1)) = ((Nat.gcd (gcdL (ns.take i)).natAbs n.natAbs : Nat) : Int) := by
  unfold gcdL
  rw [List.take_add_one, h, List.foldl_append]
  rfl

abbrev at_int {ns : List Int} {i : Nat} {x : V} (h : (ns.map V.int)[i]? = some x) : ∃ n, ns[i]? = some n ∧ x = .int n := by
  rw [List.getElem?_map] at h
  cases e : ns[i]? with
  | none =>
    rw [e] at h
    cases h
  | some n =>
    rw [e] at h
    exact ⟨n, rfl, (Option.some.inj h).symm⟩
theorem mem_int {ns : List Int} {x : V} (h : x ∈ ns.map V.int) : ∃ n, n ∈ ns ∧ x = .int n := by
  obtain ⟨n, hn, e⟩ := List.mem_map.mp h
  exact ⟨n, hn, e.symm⟩
theorem fm_ints {F : V → Option V} {f : Int → Option Int} (h : ∀ n : Int, F (.int n) = (f n).map V.int) : ∀ ns : List Int, fm F (ns.map V.int) = (ns.filterMap f).map V.int
  | [] => rfl
  | n :: ns => by
    have ih := fm_ints h ns
    show (V.int n :: ns.map V.int).filterMap F = _
    unfold fm at ih
    rw [List.filterMap_cons, h n, List.filterMap_cons]
    cases f n with
    | none => exact ih
    | some m =>
      show V.int m :: _ = V.int m :: _
      rw [ih]
section
variable {P : Program} {w : World} {K : PySem.W.Frag} {mg : Str → Option Value} {base : Heap}
/-! divisor -/
def sp_divisor (K : PySem.W.Frag) : Sp := fun vs H Q _ => ∃ (p : Addr) (ns : List Int), vs = [.ref p] ∧ Sq K H p (ns.map V.int) ∧ Q (.int (gcdL ns)) H
theorem sc_divisor : FnScope ["numbers", "common", "number"] ["numbers"] (defScope s_divisor) := ⟨rfl, rfl, rfl, by decide +kernel, rfl, by decide +kernel, by decide +kernel⟩
theorem ok_divisor {f : Addr} {fd : FuncData} (F : Fun K "divisor" "divisor" s_divisor f fd) (hG : mg "gcd" = some (.builtin "math.gcd")) : FnOk P w K mg base CX0 1 f fd ["numbers"] (sp_divisor K) := by
  refine F.ok sc_divisor (fun vs H Q E h => ?_) (fun cdv A outer s H vs Q E hr h => ?_)
  · obtain ⟨p, ns, rfl, _⟩ := h
    rfl
  · obtain ⟨p, ns, rfl, hs, q⟩ := h
    have step : ∀ (i : Nat) (x : V) (σ : L2.St) (H1 : Hp) (N : L2.St → Hp → Prop), (ns.map V.int)[i]? = some x → (∃ y, σ = [some (.ref p), some (.int (gcdL (ns.take i))), y] ∧ H1 = H) → (∀ σ2 H2, (∃ y, σ2 = [some (.ref p), some (.int (gcdL (ns.take (i + 1)))), y] ∧ H2 = H) → N σ2 H2) →
        gName 2 x σ H1 fun σ2 H2 => (tCB rGcd (tCons (tVar 1) (tCons (tVar 2) tNil))) σ2 H2 fun v H3 => N (σ2.set 1 (some v)) H3 := by
      rintro i x σ H1 N hx ⟨y, rfl, rfl⟩ k
      obtain ⟨n, hn, rfl⟩ := at_int hx
      refine ⟨_, rfl, _, rfl, _, _, rfl, k _ _ ⟨some (.int n), ?_, rfl⟩⟩
      rw [gcdL_take hn]
      rfl
    rcases hs with hs | hs
    · refine ⟨_, pss_cons (ps_set (i := 1) sc_divisor.nd rfl (Or.inl rfl) pe_int) (pss_cons (ps_for PassesOwn.never rfl (pi_list (pv 0)) (pg_name (i := 2) sc_divisor.nd rfl (Or.inl rfl))
        (pss_one (ps_set (i := 1) sc_divisor.nd rfl (Or.inl rfl) (pe_callBfun cr_gcd (by rfl) hG (pa_cons (pv 1) (pa_cons (pv 2) pa_nil)))))) (pss_one (ps_ret (pv 1)))), ?_⟩
      refine ⟨_, rfl, p, rfl, ⟨_, hs⟩, for_list (K := K) (a := p) (xs := ns.map V.int) (fun i σ H1 => ∃ y, σ = [some (.ref p), some (.int (gcdL (ns.take i))), y] ∧ H1 = H) ⟨none, rfl, rfl⟩ ?_ ?_ ?_⟩
      · rintro i σ H1 _ ⟨y, rfl, rfl⟩
        exact hs
      · intro i x σ H1 hx h
        exact step i x σ H1 _ hx h fun σ2 H2 h2 => h2
      · rintro σ H1 ⟨y, rfl, rfl⟩
        rw [List.length_map, List.take_length]
        exact ⟨_, rfl, q⟩
    · refine ⟨_, pss_cons (ps_set (i := 1) sc_divisor.nd rfl (Or.inl rfl) pe_int) (pss_cons (ps_for PassesOwn.never rfl (pi_tup (pv 0)) (pg_name (i := 2) sc_divisor.nd rfl (Or.inl rfl))
        (pss_one (ps_set (i := 1) sc_divisor.nd rfl (Or.inl rfl) (pe_callBfun cr_gcd (by rfl) hG (pa_cons (pv 1) (pa_cons (pv 2) pa_nil)))))) (pss_one (ps_ret (pv 1)))), ?_⟩
      refine ⟨_, rfl, p, rfl, ⟨_, hs⟩, for_tup (K := K) (a := p) (xs := ns.map V.int) (fun i σ H1 => ∃ y, σ = [some (.ref p), some (.int (gcdL (ns.take i))), y] ∧ H1 = H) ⟨none, rfl, rfl⟩ ?_ ?_ ?_⟩
      · rintro i σ H1 _ ⟨y, rfl, rfl⟩
        exact hs
      · intro i x σ H1 hx h
        exact step i x σ H1 _ hx h fun σ2 H2 h2 => h2
      · rintro σ H1 ⟨y, rfl, rfl⟩
        rw [List.length_map, List.take_length]
        exact ⟨_, rfl, q⟩
end
end G0

namespace G0
open PySem PySem.Spec PyProof.Rows L2
section
variable {P : Program} {w : World} {K : PySem.W.Frag} {mg : Str → Option Value} {base : Heap}
/-! plain -/
def nz (ns : List Int) : List Int := ns.filter fun n => decide (n ≠ 0)
theorem nz_fm (ns : List Int) : (ns.filterMap fun n => if n ≠ 0 then some n else none) = nz ns := by
  unfold nz
  induction ns with
  | nil => rfl
  | cons n ns ih =>
    by_cases h : n = 0
    · subst h
      rw [List.filterMap_cons, if_neg (by simp), List.filter_cons_of_neg (by simp)]
      exact ih
    · rw [List.filterMap_cons, if_pos h, List.filter_cons_of_pos (by simpa using h)]
      show n :: _ = n :: _
      rw [ih]
theorem nz_head {ns : List Int} (h : ∃ n ∈ ns, n ≠ 0) : (nz ns)[0]? = some (firstN ns) ∧ firstN ns ∈ ns ∧ firstN ns ≠ 0 := by
  obtain ⟨n, hn, h0⟩ := h
  have hm : n ∈ nz ns := List.mem_filter.mpr ⟨hn, by simpa using h0⟩
  unfold firstN
  show (nz ns)[0]? = some ((nz ns).headD 0) ∧ (nz ns).headD 0 ∈ ns ∧ (nz ns).headD 0 ≠ 0
  cases e : nz ns with
  | nil =>
    rw [e] at hm
    cases hm
  | cons m r =>
    have hm2 : m ∈ nz ns := by
      rw [e]
      exact List.mem_cons_self
    obtain ⟨a1, a2⟩ := List.mem_filter.mp hm2
    exact ⟨rfl, a1, by simpa using a2⟩
theorem fmap_some {α β : Type} (f : α → β) : ∀ xs : List α, (xs.filterMap fun x => some (f x)) = xs.map f
  | [] => rfl
  | x :: xs => by
    rw [List.filterMap_cons]
    show f x :: _ = f x :: _
    rw [fmap_some f xs]
theorem signed_le {ns : List Int} (h : ∃ n ∈ ns, n ≠ 0) (hb : ∀ n ∈ ns, n.natAbs < 2 ^ 30) : signed ns ≠ 0 ∧ (signed ns).natAbs < 1073741824 := by
  have p := gcdL_pos h
  obtain ⟨n, hn, h0⟩ := h
  have l := gcdL_le hn h0
  have b := hb n hn
  have e30 : (2 : Nat) ^ 30 = 1073741824 := rfl
  unfold signed
  split <;> omega
def sp_plain (K : PySem.W.Frag) : Sp := fun vs H Q _ => ∃ (p : Addr) (ns : List Int), vs = [.ref p] ∧ Sq K H p (ns.map V.int) ∧ (∃ n ∈ ns, n ≠ 0) ∧ (∀ n ∈ ns, n.natAbs < 2 ^ 30) ∧ ns.length ≤ 1000 ∧
  ∀ H' q, Same H H' → H q = none → H' q = some (.lst ((plainI ns).map V.int)) → Q (.ref q) H'
theorem sc_plain : FnScope ["numbers", "common", "first", "number"] ["numbers"] (defScope s_plain) := ⟨rfl, rfl, rfl, by decide +kernel, rfl, by decide +kernel, by decide +kernel⟩
theorem ok_plain {f f1 : Addr} {fd fd1 : FuncData} (F : Fun K "plain" "plain" s_plain f fd) (hG : mg "gcd" = some (.builtin "math.gcd")) (D1 : Df K mg "divisor" s_divisor ["numbers"] f1 fd1) : FnOk P w K mg base CX0 2 f fd ["numbers"] (sp_plain K) := by
  have G1 : FnOk P w K mg base CX0 1 f1 fd1 ["numbers"] (sp_divisor K) := ok_divisor D1.F hG
  refine F.ok sc_plain (fun vs H Q E h => ?_) (fun cdv A outer s H vs Q E hr h => ?_)
  · obtain ⟨p, ns, rfl, _⟩ := h
    rfl
  · obtain ⟨p, ns, rfl, hs, hz, hb, hl, q⟩ := h
    have hlen : (ns.map V.int).length < sizeLine := by
      rw [List.length_map]
      exact Nat.lt_of_le_of_lt hl (by decide)
    obtain ⟨hh, hmem, hne⟩ := nz_head hz
    obtain ⟨c0, cb⟩ := signed_le hz hb
    let FN : V → Option V := fun x => match x with | .int n => if n ≠ 0 then some (.int n) else none | _ => none
    let FD : V → Option V := fun x => match x with | .int n => some (.int (n.fdiv (signed ns))) | _ => none
    have fd : fm FD (ns.map V.int) = (plainI ns).map V.int := by
      rw [fm_ints (f := fun n => some (n.fdiv (signed ns))) (fun _ => rfl), fmap_some]
      rfl
    have at0 : atI (fm FN (ns.map V.int)) 0 = some (.int (firstN ns)) := by
      rw [fm_ints (f := fun n => if n ≠ 0 then some n else none) (fun n => by by_cases h0 : n = 0 <;> simp [FN, h0]), nz_fm]
      refine atI_nat (j := 0) ?_
      rw [List.getElem?_map, hh]
      rfl
    have t1 : ∀ x, x ∈ ns.map V.int → ∀ H1 : Hp, Turn1 (gName 3) (tTest (tOp rNe (tVar 3) (tC (.int 0)))) (tVar 3) [3] [some (.ref p), some (.int (gcdL ns)), none, none] FN x H1 := by
      intro x hx H1 G N g1 g2
      obtain ⟨n, hn, rfl⟩ := mem_int hx
      refine ⟨rfl, ?_⟩
      refine ⟨_, rfl, rfl, _, rfl, ?_⟩
      by_cases h0 : n = 0
      · subst h0
        exact g1 (by simp [FN]) _ (Same.refl _)
      · have hd : (!decide (V.int n = V.int 0)) = true := by simp [h0]
        rw [hd]
        exact iteT ⟨_, rfl, g2 _ (by simp [FN, h0]) _ (Same.refl _)⟩
    have t2 : ∀ c : Int, signed ns = c → ∀ x, x ∈ ns.map V.int → ∀ H1 : Hp, Turn1 (gName 3) tYes (tOp (rI CDivN fun i j => .int (i.fdiv j)) (tVar 3) (tVar 1)) [3] [some (.ref p), some (.int c), some (.int (firstN ns)), none] FD x H1 := by
      intro c hc x hx H1 G N g1 g2
      obtain ⟨n, hn, rfl⟩ := mem_int hx
      refine ⟨rfl, iteT (B := N H1) ?_⟩
      exact ⟨_, rfl, _, rfl, _, _, rfl, rfl, by rw [← hc]; exact ⟨c0, cb⟩, g2 _ (by simp [FD, hc]) _ (Same.refl _)⟩
    rcases hs with hs | hs
    · refine ⟨_, pss_cons (ps_set (i := 1) sc_plain.nd rfl (Or.inr rfl) (pdf D1 G1 hr (pa_cons (pv 0) pa_nil)))
        (pss_cons (ps_set (i := 2) sc_plain.nd rfl (Or.inl rfl) (pe_ix ix_list (pe_lc (own := [("number", 3)]) (g := gName 3) rfl sc_plain.nd (pi_list (pv 0)) (blkOk_by (N := ["numbers", "common", "first", "number"]) (sc := defScope s_plain) (by decide +kernel)) (fun _ _ _ _ _ => pg_name (i := 3) sc_plain.nd rfl (Or.inl rfl))
          (fun _ _ _ _ _ => pts_one (pt_cmpR op_ne (pv 3) pe_int (nomark _))) (fun _ _ _ _ _ => pv 3)) pe_int (fun _ _ => rfl)))
        (pss_cons (ps_if (pt_cmpR op_lt (pv 2) pe_int (nomark _)) (pss_one (ps_set (i := 1) sc_plain.nd rfl (Or.inr rfl) (pe_un un_neg (pv 1)))) pss_nil)
        (pss_one (ps_ret (pe_lc (own := [("number", 3)]) (g := gName 3) (tt := tYes) rfl sc_plain.nd (pi_list (pv 0)) (blkOk_by (N := ["numbers", "common", "first", "number"]) (sc := defScope s_plain) (by decide +kernel)) (fun _ _ _ _ _ => pg_name (i := 3) sc_plain.nd rfl (Or.inl rfl))
          (fun _ _ _ _ _ => pts_nil) (fun _ _ _ _ _ => pe_op op_fdivN (pv 3) (pv 1))))))), ?_⟩
      refine ⟨_, rfl, p, ns, rfl, .inl hs, ?_⟩
      refine ⟨_, rfl, p, rfl, ⟨_, hs⟩, fun D hD => lcL FN hs hlen hD (fun x hx H1 _ => t1 x hx H1) fun H1 s1 h1 => ?_⟩
      refine ⟨D, _, 0, _, rfl, rfl, SqL.mk h1, at0, ?_⟩
      refine ⟨_, rfl, _, _, rfl, rfl, _, rfl, ?_⟩
      have hs1 := s1.seq hs
      refine ite2 (fun e => ?_) (fun e => ?_)
      · have e2 : firstN ns < 0 := of_decide_eq_true e
        refine ⟨_, rfl, _, rfl, ?_⟩
        refine ⟨_, rfl, p, rfl, ⟨_, hs1⟩, fun D2 hD2 => lcL FD hs1 hlen hD2 (fun x hx H2 _ => t2 (-gcdL ns) (by unfold signed; rw [if_pos e2]) x hx H2) fun H2 s2 h2 => q H2 D2 (s1.trans s2) (s1.free hD2) (by rw [h2, fd])⟩
      · have e2 : ¬ firstN ns < 0 := fun z => e (decide_eq_true z)
        refine ⟨_, rfl, p, rfl, ⟨_, hs1⟩, fun D2 hD2 => lcL FD hs1 hlen hD2 (fun x hx H2 _ => t2 (gcdL ns) (by unfold signed; rw [if_neg e2]) x hx H2) fun H2 s2 h2 => q H2 D2 (s1.trans s2) (s1.free hD2) (by rw [h2, fd])⟩
    · refine ⟨_, pss_cons (ps_set (i := 1) sc_plain.nd rfl (Or.inr rfl) (pdf D1 G1 hr (pa_cons (pv 0) pa_nil)))
        (pss_cons (ps_set (i := 2) sc_plain.nd rfl (Or.inl rfl) (pe_ix ix_list (pe_lc (own := [("number", 3)]) (g := gName 3) rfl sc_plain.nd (pi_tup (pv 0)) (blkOk_by (N := ["numbers", "common", "first", "number"]) (sc := defScope s_plain) (by decide +kernel)) (fun _ _ _ _ _ => pg_name (i := 3) sc_plain.nd rfl (Or.inl rfl))
          (fun _ _ _ _ _ => pts_one (pt_cmpR op_ne (pv 3) pe_int (nomark _))) (fun _ _ _ _ _ => pv 3)) pe_int (fun _ _ => rfl)))
        (pss_cons (ps_if (pt_cmpR op_lt (pv 2) pe_int (nomark _)) (pss_one (ps_set (i := 1) sc_plain.nd rfl (Or.inr rfl) (pe_un un_neg (pv 1)))) pss_nil)
        (pss_one (ps_ret (pe_lc (own := [("number", 3)]) (g := gName 3) (tt := tYes) rfl sc_plain.nd (pi_tup (pv 0)) (blkOk_by (N := ["numbers", "common", "first", "number"]) (sc := defScope s_plain) (by decide +kernel)) (fun _ _ _ _ _ => pg_name (i := 3) sc_plain.nd rfl (Or.inl rfl))
          (fun _ _ _ _ _ => pts_nil) (fun _ _ _ _ _ => pe_op op_fdivN (pv 3) (pv 1))))))), ?_⟩
      refine ⟨_, rfl, p, ns, rfl, .inr hs, ?_⟩
      refine ⟨_, rfl, p, rfl, ⟨_, hs⟩, fun D hD => lcT FN hs hlen hD (fun x hx H1 _ => t1 x hx H1) fun H1 s1 h1 => ?_⟩
      refine ⟨D, _, 0, _, rfl, rfl, SqL.mk h1, at0, ?_⟩
      refine ⟨_, rfl, _, _, rfl, rfl, _, rfl, ?_⟩
      have hs1 := same_t s1 hs
      refine ite2 (fun e => ?_) (fun e => ?_)
      · have e2 : firstN ns < 0 := of_decide_eq_true e
        refine ⟨_, rfl, _, rfl, ?_⟩
        refine ⟨_, rfl, p, rfl, ⟨_, hs1⟩, fun D2 hD2 => lcT FD hs1 hlen hD2 (fun x hx H2 _ => t2 (-gcdL ns) (by unfold signed; rw [if_pos e2]) x hx H2) fun H2 s2 h2 => q H2 D2 (s1.trans s2) (s1.free hD2) (by rw [h2, fd])⟩
      · have e2 : ¬ firstN ns < 0 := fun z => e (decide_eq_true z)
        refine ⟨_, rfl, p, rfl, ⟨_, hs1⟩, fun D2 hD2 => lcT FD hs1 hlen hD2 (fun x hx H2 _ => t2 (gcdL ns) (by unfold signed; rw [if_neg e2]) x hx H2) fun H2 s2 h2 => q H2 D2 (s1.trans s2) (s1.free hD2) (by rw [h2, fd])⟩
end
end G0

namespace G0
open PySem PySem.Spec PyProof.Rows L2
section
variable {P : Program} {w : World} {K : PySem.W.Frag} {mg : Str → Option Value} {base : Heap}
/-! is_point of three ints -/
def sp_is_point (K : PySem.W.Frag) : Sp := fun vs H Q _ => ∃ (p : Addr) (a b c : Int), vs = [.ref p] ∧ Sq K H p ([a, b, c].map V.int) ∧ ∀ H', Same H H' → Q (.bl (decide (a ≠ 0) || (decide (b ≠ 0) || (decide (c ≠ 0) || false)))) H'
theorem sc_is_point : FnScope ["value", "number"] ["value"] (defScope s_is_point) := ⟨rfl, rfl, rfl, by decide +kernel, rfl, by decide +kernel, by decide +kernel⟩
theorem ok_is_point {f f1 f2 f3 : Addr} {fd fd1 fd2 fd3 : FuncData} (F : Fun K "is_point" "is_point" s_is_point f fd) (B : Blt mg) (D1 : Df K mg "is_three" s_is_three ["value"] f1 fd1)
    (D2 : Df K mg "is_integer" s_is_integer ["value"] f2 fd2) (D3 : Df K mg "is_list" s_is_list ["value"] f3 fd3) : FnOk P w K mg base CX0 3 f fd ["value"] (sp_is_point K) := by
  have G1 : FnOk P w K mg base CX0 2 f1 fd1 ["value"] (sp_is_three K) := ok_is_three D1.F B D2 D3
  refine F.ok sc_is_point (fun vs H Q E h => ?_) (fun cdv A outer s H vs Q E hr h => ?_)
  · obtain ⟨p, a, b, c, rfl, _⟩ := h
    rfl
  · obtain ⟨p, a, b, c, rfl, hs, q⟩ := h
    let FN : V → Option V := fun x => match x with | .int n => some (.bl (decide (n ≠ 0))) | _ => none
    have t1 : ∀ x, x ∈ [a, b, c].map V.int → ∀ H1 : Hp, Turn1 (gName 1) tYes (tOp rNe (tVar 1) (tC (.int 0))) [1] [some (.ref p), none] FN x H1 := by
      intro x hx H1 G N g1 g2
      obtain ⟨n, hn, rfl⟩ := mem_int hx
      refine ⟨rfl, iteT (B := N H1) ?_⟩
      refine ⟨_, rfl, rfl, g2 _ ?_ _ (Same.refl _)⟩
      show some (V.bl (decide (n ≠ 0))) = some (V.bl (!decide (V.int n = V.int 0)))
      by_cases h0 : n = 0 <;> simp [h0]
    rcases hs with hs | hs
    · refine ⟨_, pss_one (ps_ret (pe_and (pdf D1 G1 hr (pa_cons (pv 0) pa_nil)) (pe_one (pe_callB (cr_any rfl) (by rfl) B.any boot_any (pa_cons (pe_lc (own := [("number", 1)]) (g := gName 1) (tt := tYes) rfl sc_is_point.nd (pi_list (pv 0)) (blkOk_by (N := ["value", "number"]) (sc := defScope s_is_point) (by decide +kernel)) (fun _ _ _ _ _ => pg_name (i := 1) sc_is_point.nd rfl (Or.inl rfl))
        (fun _ _ _ _ _ => pts_nil) (fun _ _ _ _ _ => pe_cmpR op_ne (pv 1) pe_int (nomark _))) pa_nil))))), ?_⟩
      refine ⟨_, rfl, p, a, b, c, rfl, .inl hs, fun H1 s1 => ⟨true, rfl, iteT ?_⟩⟩
      have hs1 := s1.seq hs
      refine ⟨_, rfl, p, rfl, ⟨_, hs1⟩, fun D hD => lcL FN hs1 (by show 3 < sizeLine; decide) hD (fun x hx H2 _ => t1 x hx H2) fun H2 s2 h2 => ?_⟩
      exact ⟨D, [decide (a ≠ 0), decide (b ≠ 0), decide (c ≠ 0)], rfl, SqL.mk h2, q _ (s1.trans s2)⟩
    · refine ⟨_, pss_one (ps_ret (pe_and (pdf D1 G1 hr (pa_cons (pv 0) pa_nil)) (pe_one (pe_callB (cr_any rfl) (by rfl) B.any boot_any (pa_cons (pe_lc (own := [("number", 1)]) (g := gName 1) (tt := tYes) rfl sc_is_point.nd (pi_tup (pv 0)) (blkOk_by (N := ["value", "number"]) (sc := defScope s_is_point) (by decide +kernel)) (fun _ _ _ _ _ => pg_name (i := 1) sc_is_point.nd rfl (Or.inl rfl))
        (fun _ _ _ _ _ => pts_nil) (fun _ _ _ _ _ => pe_cmpR op_ne (pv 1) pe_int (nomark _))) pa_nil))))), ?_⟩
      refine ⟨_, rfl, p, a, b, c, rfl, .inr hs, fun H1 s1 => ⟨true, rfl, iteT ?_⟩⟩
      have hs1 := same_t s1 hs
      refine ⟨_, rfl, p, rfl, ⟨_, hs1⟩, fun D hD => lcT FN hs1 (by show 3 < sizeLine; decide) hD (fun x hx H2 _ => t1 x hx H2) fun H2 s2 h2 => ?_⟩
      exact ⟨D, [decide (a ≠ 0), decide (b ≠ 0), decide (c ≠ 0)], rfl, SqL.mk h2, q _ (s1.trans s2)⟩

/-! told_point of three ints, not all 0 -/
def sp_told_point (K : PySem.W.Frag) : Sp := fun vs H Q _ => ∃ (p : Addr) (a b c : Int), vs = [.ref p] ∧ Sq K H p ([a, b, c].map V.int) ∧ (∃ n ∈ [a, b, c], n ≠ 0) ∧ (∀ n ∈ [a, b, c], n.natAbs < 2 ^ 30) ∧
  ∀ H' q, Same H H' → H q = none → H' q = some (.tup ((plainI [a, b, c]).map V.int)) → Q (.ref q) H'
theorem any_of {a b c : Int} (h : ∃ n ∈ [a, b, c], n ≠ 0) : (decide (a ≠ 0) || (decide (b ≠ 0) || (decide (c ≠ 0) || false))) = true := by
  obtain ⟨n, hn, h0⟩ := h
  simp only [List.mem_cons, List.not_mem_nil, or_false] at hn
  rcases hn with rfl | rfl | rfl <;> simp [h0]
theorem sc_told_point : FnScope ["point"] ["point"] (defScope s_told_point) := ⟨rfl, rfl, rfl, by decide +kernel, rfl, by decide +kernel, by decide +kernel⟩
theorem ok_told_point {f f1 f2 : Addr} {fd fd1 fd2 : FuncData} (F : Fun K "told_point" "told_point" s_told_point f fd) (B : Blt mg) (D1 : Df K mg "is_point" s_is_point ["value"] f1 fd1) (D2 : Df K mg "plain" s_plain ["numbers"] f2 fd2)
    (G1 : FnOk P w K mg base CX0 3 f1 fd1 ["value"] (sp_is_point K)) (G2 : FnOk P w K mg base CX0 2 f2 fd2 ["numbers"] (sp_plain K)) : FnOk P w K mg base CX0 4 f fd ["point"] (sp_told_point K) := by
  refine F.ok sc_told_point (fun vs H Q E h => ?_) (fun cdv A outer s H vs Q E hr h => ?_)
  · obtain ⟨p, a, b, c, rfl, _⟩ := h
    rfl
  · obtain ⟨p, a, b, c, rfl, hs, hz, hb, q⟩ := h
    refine ⟨_, pss_cons (ps_if (pt_not (pt_val (pdf D1 G1 hr (pa_cons (pv 0) pa_nil)))) (pss_one ps_never) pss_nil)
      (pss_one (ps_ret (pe_callTy call_tuple_of (by rfl) B.tuple boot_ttuple (pa_cons (pdf D2 G2 (hr.mono (by decide)) (pa_cons (pv 0) pa_nil)) pa_nil)))), ?_⟩
    refine ⟨_, rfl, p, a, b, c, rfl, hs, fun H1 s1 => ?_⟩
    rw [any_of hz]
    refine ⟨true, rfl, iteF ?_⟩
    refine ⟨_, rfl, p, [a, b, c], rfl, hs.same s1, hz, hb, by show 3 ≤ 1000; decide, fun H2 l s2 nl hl => ?_⟩
    refine ⟨l, _, rfl, .inl ⟨SqL.mk hl, fun t ht => ?_⟩⟩
    exact q _ t ((s1.trans s2).trans (same_new ht)) ((s1.trans s2).free ht) upd_same
end
end G0

namespace G0
open PySem PySem.Spec PyProof.Rows L2
abbrev s_Spots : Stmt := top 18
abbrev s_Spots_init : Stmt := inClass s_Spots 0
abbrev s_Spots_points : Stmt := inClass s_Spots 4
abbrev s_Spots_place : Stmt := inClass s_Spots 5
/-! ### what is compared -/
theorem lay_ints : ∀ ns : List Int, PyData.canLayAll0 (ns.map PyData.int) = true
  | [] => by simp [PyData.canLayAll0]
  | n :: ns => by simp [PyData.canLayAll0, PyData.canLay0, lay_ints ns]
theorem dep_ints : ∀ ns : List Int, PyData.depthAll (ns.map PyData.int) = 0
  | [] => by simp [PyData.depthAll]
  | n :: ns => by simp [PyData.depthAll, PyData.depth, dep_ints ns]
theorem lay_tups : ∀ ts : List (List Int), PyData.canLayAll0 (ts.map dTup) = true
  | [] => by simp [PyData.canLayAll0]
  | t :: ts => by simp [PyData.canLayAll0, PyData.canLay0, lay_tups ts, lay_ints]
theorem dep_tups : ∀ ts : List (List Int), PyData.depthAll (ts.map dTup) ≤ 1
  | [] => by simp [PyData.depthAll]
  | t :: ts => by
    have := dep_tups ts
    simp only [List.map_cons, PyData.depthAll, PyData.depth, dep_ints]
    omega
theorem shaped_tup (ns : List Int) : SeqAt.shaped (dTup ns) = true := by
  show (PyData.canLay0 (dTup ns) && decide (PyData.depth (dTup ns) ≤ 64)) = true
  simp only [PyData.canLay0, lay_ints, PyData.depth, dep_ints]
  decide
theorem shaped_tups (ts : List (List Int)) : SeqAt.shaped (.list (ts.map dTup)) = true := by
  show (PyData.canLay0 (.list (ts.map dTup)) && decide (PyData.depth (.list (ts.map dTup)) ≤ 64)) = true
  have h : PyData.depth (.list (ts.map dTup)) ≤ 64 := by
    have := dep_tups ts
    simp only [PyData.depth]
    omega
  simp only [PyData.canLay0, lay_tups, decide_eq_true h, Bool.and_self]
theorem any_eqv (ts : List (List Int)) (t : List Int) : ((ts.map dTup).any fun z => PyData.eqv z (dTup t)) = decide (t ∈ ts) := by
  induction ts with
  | nil => simp
  | cons u us ih =>
    rw [List.map_cons, List.any_cons, ih, eqv_tup, Bool.eq_iff_iff]
    simp only [Bool.or_eq_true, decide_eq_true_eq, List.mem_cons]
    exact ⟨fun h => h.imp (fun e => e.symm) id, fun h => h.imp (fun e => e.symm) id⟩
theorem not_mem_take {α : Type} {xs : List α} {i : Nat} {x : α} (nd : xs.Nodup) (h : xs[i]? = some x) : x ∉ xs.take i := by
  intro m
  obtain ⟨hi, e⟩ := List.getElem?_eq_some_iff.mp h
  obtain ⟨j, hj, ej⟩ := List.getElem_of_mem m
  rw [List.length_take] at hj
  rw [List.getElem_take] at ej
  have := (List.getElem_inj (h₀ := by omega) (h₁ := hi) nd).mp (ej.trans e.symm)
  omega
theorem DpAll.snoc {K : PySem.W.Frag} {H : Hp} : ∀ {vs : List V} {ds : List PyData} {v : V} {d : PyData}, DpAll K H vs ds → Dp K H v d → DpAll K H (vs ++ [v]) (ds ++ [d])
  | _, _, _, _, .nil, h => .cons h .nil
  | _, _, _, _, .cons h1 h2, h => .cons h1 (DpAll.snoc h2 h)
theorem DpAll.len {K : PySem.W.Frag} {H : Hp} : ∀ {vs : List V} {ds : List PyData}, DpAll K H vs ds → vs.length = ds.length
  | _, _, .nil => rfl
  | _, _, .cons _ h => by rw [List.length_cons, List.length_cons, DpAll.len h]

/-! ### Spots -/
/-- one point as it may be passed -/
structure Pt (K : PySem.W.Frag) (H : Hp) (v : V) (t : List Int) : Prop where
  at_ : ∃ p a b c, v = .ref p ∧ t = [a, b, c] ∧ Sq K H p ([a, b, c].map V.int)
  nz : ∃ n ∈ t, n ≠ 0
  sm : ∀ n ∈ t, n.natAbs < 2 ^ 30
theorem Pt.same {K : PySem.W.Frag} {H H' : Hp} {v : V} {t : List Int} (e : Same H H') (h : Pt K H v t) : Pt K H' v t := by
  obtain ⟨⟨p, a, b, c, h1, h2, h3⟩, h4, h5⟩ := h
  exact ⟨⟨p, a, b, c, h1, h2, h3.same e⟩, h4, h5⟩
/-- Spots that keep these told points -/
def SpotsAt (K : PySem.W.Frag) (C : Addr) (H : Hp) (x : Addr) (ts : List (List Int)) : Prop :=
  ∃ dx l vs, H x = some (.ins C dx [("_points", .ref l)]) ∧ H l = some (.lst vs) ∧ DpAll K H vs (ts.map dTup)
theorem SpotsAt.same {K : PySem.W.Frag} {C x : Addr} {H H' : Hp} {ts : List (List Int)} (e : Same H H') (h : SpotsAt K C H x ts) : SpotsAt K C H' x ts := by
  obtain ⟨dx, l, vs, h1, h2, h3⟩ := h
  exact ⟨dx, l, vs, e _ _ h1, e _ _ h2, DpAll.same e h3⟩
def sp_init (K : PySem.W.Frag) (C : Addr) : Sp := fun vs H Q _ => ∃ (H0 : Hp) (x dx p : Addr) (us : List V) (ts : List (List Int)), vs = [.ref x, .ref p] ∧ Same H0 H ∧ H0 x = none ∧ H x = some (.ins C dx []) ∧ SqL K H0 p us ∧ us.length = ts.length ∧
  (∀ (i : Nat) (v : V) (t : List Int), us[i]? = some v → ts[i]? = some t → Pt K H0 v t) ∧ 1 ≤ ts.length ∧ ts.length ≤ 24 ∧ (ts.map plainI).Nodup ∧ ∀ H', Same H0 H' → SpotsAt K C H' x (ts.map plainI) → Q .non H'
structure SpTxt (K : PySem.W.Frag) (mg : Str → Option Value) (C : Addr) : Prop where
  cl : Cls K C
  nP : NoAttr K C "_points"
  mgC : mg "Spots" = some (.ref C)
  most : ∃ t, mg "MOST_POINTS" = some (.int 24 t)
section
variable {P : Program} {w : World} {K : PySem.W.Frag} {mg : Str → Option Value} {base : Heap}
theorem sc_init : FnScope ["self", "points", "told", "position", "point"] ["self", "points"] (defScope s_Spots_init) := ⟨rfl, rfl, rfl, by decide +kernel, rfl, by decide +kernel, by decide +kernel⟩
theorem ok_init {f C f1 f2 f3 : Addr} {fd fd1 fd2 fd3 : FuncData} (F : Fun K "__init__" "Spots.__init__" s_Spots_init f fd) (T : SpTxt K mg C) (B : Blt mg) (D1 : Df K mg "is_list" s_is_list ["value"] f1 fd1) (D2 : Df K mg "is_point" s_is_point ["value"] f2 fd2) (D3 : Df K mg "told_point" s_told_point ["point"] f3 fd3)
    (G1 : FnOk P w K mg base CX0 1 f1 fd1 ["value"] (sp_is_list K)) (G2 : FnOk P w K mg base CX0 3 f2 fd2 ["value"] (sp_is_point K)) (G3 : FnOk P w K mg base CX0 4 f3 fd3 ["point"] (sp_told_point K)) : FnOk P w K mg base CX0 5 f fd ["self", "points"] (sp_init K C) := by
  refine F.ok sc_init (fun vs H Q E h => ?_) (fun cdv A outer s H vs Q E hr h => ?_)
  · obtain ⟨H0, x, dx, p, us, ts, rfl, _⟩ := h
    rfl
  · obtain ⟨H0, x, dx, p, us, ts, rfl, s0, hx0, hx, hp, hlu, hpt, h1, h24, hnd, q⟩ := h
    obtain ⟨t24, m24⟩ := T.most
    have hu65 : (A.deeper (envOfC "Spots.__init__" (defScope s_Spots_init) s.heap.objs.size f cdv)).units + 65 < cLine := by
      have := hr.un
      omega
    refine ⟨_, pss_cons (ps_if (PW.pt (pw_or (pt_not (pt_val (pdf D1 G1 (hr.mono (by decide)) (pa_cons (pv 1) pa_nil)))) (pw_or1 (pt_not (pt_chain op_le op_le pe_int (pe_callB call_len_seq (by rfl) B.len PySem.boot_len (pa_cons (pv 1) pa_nil)) (pe_glob (v := V.int 24) rfl m24 ⟨_, rfl⟩)))))) (pss_one ps_never) pss_nil)
      (pss_cons (ps_set (i := 2) sc_init.nd rfl (Or.inl rfl) (pe_lst pa_nil))
      (pss_cons (ps_for PassesOwn.never rfl (pi_enum (by rfl) B.enumerate (pa_cons (pv 1) pa_nil)) (pg_tup rfl (pgs_cons (pg_name (i := 3) sc_init.nd rfl (.inl rfl)) (pgs_cons (pg_name (i := 4) sc_init.nd rfl (.inl rfl)) pgs_nil)))
        (pss_cons (ps_if (PW.pt (pw_or (pt_not (pt_val (pdf D2 G2 (hr.mono (by decide)) (pa_cons (pv 4) pa_nil)))) (pw_or1 (pt_cmpR (op_inD hu65) (pdf D3 G3 hr (pa_cons (pv 4) pa_nil)) (pv 2) (by rfl))))) (pss_one ps_never) pss_nil)
        (pss_one (ps_expr (pe_bm PySem.F.plainAttrs_list PySem.F.slot_list_append PySem.F.type_list_append mt_append (pv 2) (pa_cons (pdf D3 G3 hr (pa_cons (pv 4) pa_nil)) pa_nil))))))
      (pss_one (ps_fld (pv 0) (pv 2) rfl)))), ?_⟩
    -- not is_list(points) or not 1 <= len(points) <= MOST_POINTS
    refine ⟨_, rfl, p, us, rfl, .inl (s0.seq hp), fun H1 s1 => ⟨true, rfl, ?_⟩⟩
    have s01 := s0.trans s1
    refine iteF ?_
    refine ⟨_, rfl, p, us, rfl, .inl (s01.seq hp), ?_⟩
    have e1 : decide ((1 : Int) ≤ ((us.length : Nat) : Int)) = true := decide_eq_true (by omega)
    have e24 : decide (((us.length : Nat) : Int) ≤ 24) = true := decide_eq_true (by omega)
    refine ⟨1, _, rfl, rfl, _, rfl, ?_⟩
    rw [e1]
    refine iteT ⟨_, 24, rfl, rfl, _, rfl, ?_⟩
    rw [e24]
    refine iteF ?_
    -- told = []
    refine ⟨Nat.zero_le _, fun l hl => ?_⟩
    -- for position, point in enumerate(points)
    have hx1 : H1 x = some (.ins C dx []) := s1 _ _ hx
    have nxl : x ≠ l := ne_of_none hx1 hl
    have l0 : H0 l = none := s01.free hl
    refine ⟨_, rfl, p, us, rfl, ((s01.trans (same_new hl)).seq hp), for_it (walk_enum (xs := us)) (fun i σ H2 => ∃ (D0 : Hp) (vs : List V) (y3 y4 : Option V), σ = [some (.ref x), some (.ref p), some (.ref l), y3, y4] ∧ Same H0 D0 ∧ D0 x = none ∧ D0 l = none ∧ Same D0 H2 ∧
      H2 x = some (.ins C dx []) ∧ H2 l = some (.lst vs) ∧ DpAll K D0 vs (((ts.map plainI).take i).map dTup)) ⟨H0, [], none, none, rfl, Same.refl _, hx0, l0, s01.trans (same_new hl), ?_, upd_same, .nil⟩ ?_ ?_ ?_⟩
    · rw [upd_ne nxl]
      exact hx1
    · rintro i σ H2 _ ⟨D0, vs, y3, y4, rfl, a1, a2, a3, a4, _⟩
      exact (a1.trans a4).seq hp
    · rintro i y σ H2 H3 hi ⟨D0, vs, y3, y4, rfl, a1, a2, a3, a4, a5, a6, a7⟩ ⟨Tp, z1, z2, rfl, nT, rfl, ez1, ez2⟩
      cases ez1
      obtain ⟨t, et⟩ : ∃ t, ts[i]? = some t := ⟨ts[i]'(by omega), List.getElem?_eq_getElem _⟩
      have pt0 := hpt i z2 t ez2 et
      obtain ⟨⟨pp, a, b, c, rfl, rfl, sq⟩, nz, sm⟩ := pt0
      have sT : Same H2 (upd H2 Tp (.tup [.int (i : Nat), .ref pp])) := same_new nT
      refine ⟨Tp, _, rfl, SqT.mk upd_same, rfl, _, _, rfl, _, _, rfl, rfl, ?_⟩
      have s3 : Same H0 (upd H2 Tp (.tup [.int (i : Nat), .ref pp])) := (a1.trans a4).trans sT
      -- not is_point(point) or told_point(point) in told
      refine ⟨_, rfl, pp, a, b, c, rfl, sq.same s3, fun H4 s4 => ?_⟩
      rw [any_of nz]
      refine ⟨true, rfl, iteF ?_⟩
      refine ⟨_, rfl, pp, a, b, c, rfl, sq.same (s3.trans s4), nz, sm, fun H5 q1 s5 n5 h5 => ?_⟩
      have sD5 : Same D0 H5 := (a4.trans sT).trans (s4.trans s5)
      have hl5 : H5 l = some (.lst vs) := s5 _ _ (s4 _ _ (sT _ _ a6))
      refine ⟨_, rfl, dTup (plainI [a, b, c]), ((ts.map plainI).take i).map dTup, dp_tup (SqT.mk h5), .lst (SqL.mk hl5) (DpAll.same sD5 a7), shaped_tup _, shaped_tups _, ?_⟩
      have em : (ts.map plainI)[i]? = some (plainI [a, b, c]) := by
        rw [List.getElem?_map, et]
        rfl
      have no : ((((ts.map plainI).take i).map dTup).any fun z => PyData.eqv z (dTup (plainI [a, b, c]))) = false := by
        rw [any_eqv]
        exact decide_eq_false (not_mem_take hnd em)
      rw [no]
      refine ⟨_, rfl, iteF ?_⟩
      -- told.append(told_point(point))
      refine ⟨_, rfl, .inl ⟨rfl, _, SqL.mk hl5⟩, _, rfl, pp, a, b, c, rfl, sq.same (a1.trans sD5), nz, sm, fun H6 q2 s6 n6 h6 => ?_⟩
      have sD6 : Same D0 H6 := sD5.trans s6
      have hl6 : H6 l = some (.lst vs) := s6 _ _ hl5
      have hx6 : H6 x = some (.ins C dx []) := s6 _ _ (s5 _ _ (s4 _ _ (sT _ _ a5)))
      have q20 : D0 q2 = none := sD5.free n6
      have nq2l : q2 ≠ l := (ne_of_none hl5 n6).symm
      have nq2x : q2 ≠ x := (ne_of_none (s5 _ _ (s4 _ _ (sT _ _ a5))) n6).symm
      have hvl : vs.length ≤ 24 := by
        rw [DpAll.len a7, List.length_map, List.length_take]
        have := List.length_map (f := plainI) (as := ts)
        omega
      refine ⟨l, _, _, rfl, rfl, hl6, Nat.lt_of_le_of_lt hvl (by decide), ?_⟩
      refine ⟨upd D0 q2 (.tup ((plainI [a, b, c]).map V.int)), vs ++ [.ref q2], _, _, rfl, a1.trans (same_new q20), ?_, ?_, ?_, ?_, upd_same, ?_⟩
      · rw [upd_ne nq2x.symm]
        exact a2
      · rw [upd_ne nq2l.symm]
        exact a3
      · intro b o e
        by_cases eb : b = q2
        · subst eb
          rw [upd_same] at e
          cases e
          rw [upd_ne nq2l]
          exact h6
        · rw [upd_ne eb] at e
          rw [upd_ne (ne_of_none e a3)]
          exact sD6 _ _ e
      · rw [upd_ne nxl]
        exact hx6
      · rw [List.take_add_one, em, List.map_append]
        exact DpAll.snoc (DpAll.same (same_new q20) a7) (dp_tup (SqT.mk upd_same))
    · rintro σ H2 ⟨D0, vs, y3, y4, rfl, a1, a2, a3, a4, a5, a6, a7⟩
      rw [List.take_of_length_le (by rw [List.length_map]; omega)] at a7
      refine ⟨_, rfl, _, rfl, x, C, dx, [], rfl, a5, T.cl, T.nP, (by show 0 < 1000; decide), ?_⟩
      have sx : Same D0 (upd H2 x (.ins C dx (putF "_points" (.ref l) []))) := fun b o e => by
        rw [upd_ne (ne_of_none e a2)]
        exact a4 _ _ e
      refine q _ (a1.trans sx) ⟨dx, l, vs, upd_same, ?_, DpAll.same sx a7⟩
      rw [upd_ne nxl.symm]
      exact a6
end
end G0

namespace G0
open PySem PySem.Spec PyProof.Rows L2
section
variable {P : Program} {w : World} {K : PySem.W.Frag} {mg : Str → Option Value} {base : Heap}
/-- a list of told points -/
def Tups (K : PySem.W.Frag) (H : Hp) (l : Addr) (ts : List (List Int)) : Prop := ∃ vs, H l = some (.lst vs) ∧ DpAll K H vs (ts.map dTup)
theorem Tups.dp {K : PySem.W.Frag} {H : Hp} {l : Addr} {ts : List (List Int)} (h : Tups K H l ts) : Dp K H (.ref l) (.list (ts.map dTup)) := by
  obtain ⟨vs, h1, h2⟩ := h
  exact .lst (SqL.mk h1) h2
def sp_points (K : PySem.W.Frag) (C : Addr) : Sp := fun vs H Q _ => ∃ (x : Addr) (ts : List (List Int)), vs = [.ref x] ∧ SpotsAt K C H x ts ∧ ∀ H' l, Same H H' → H l = none → Tups K H' l ts → Q (.ref l) H'
theorem sc_points : FnScope ["self"] ["self"] (defScope s_Spots_points) := ⟨rfl, rfl, rfl, by decide +kernel, rfl, by decide +kernel, by decide +kernel⟩
theorem ok_points {f C : Addr} {fd : FuncData} (F : Fun K "points" "Spots.points" s_Spots_points f fd) (T : SpTxt K mg C) (B : Blt mg) : FnOk P w K mg base CX0 1 f fd ["self"] (sp_points K C) := by
  refine F.ok sc_points (fun vs H Q E h => ?_) (fun cdv A outer s H vs Q E hr h => ?_)
  · obtain ⟨x, ts, rfl, _⟩ := h
    rfl
  · obtain ⟨x, ts, rfl, ⟨dx, l, us, h1, h2, h3⟩, q⟩ := h
    refine ⟨_, pss_one (ps_ret (pe_callTy call_list_of (by rfl) B.list boot_tlist (pa_cons (pe_fld (pv 0) rfl) pa_nil))), ?_⟩
    refine ⟨_, rfl, x, C, dx, _, _, rfl, h1, T.cl, T.nP, rfl, l, us, rfl, .inl (SqL.mk h2), fun m hm => ?_⟩
    exact q _ m (same_new hm) hm ⟨us, upd_same, DpAll.same (same_new hm) h3⟩

def PlaceIs (ts : List (List Int)) (t : List Int) : Option Nat → Prop
  | none => t ∉ ts
  | some j => ts[j]? = some t ∧ ∀ m, m < j → ts[m]? ≠ some t
def placeV : Option Nat → V
  | none => .non
  | some j => .int (j : Nat)
def sp_place (K : PySem.W.Frag) (C : Addr) : Sp := fun vs H Q _ => ∃ (x : Addr) (ts : List (List Int)) (v : V) (t : List Int) (r : Option Nat), vs = [.ref x, v] ∧ SpotsAt K C H x ts ∧ Pt K H v t ∧ PlaceIs ts (plainI t) r ∧ ∀ H', Same H H' → Q (placeV r) H'
theorem sc_place : FnScope ["self", "point", "told"] ["self", "point"] (defScope s_Spots_place) := ⟨rfl, rfl, rfl, by decide +kernel, rfl, by decide +kernel, by decide +kernel⟩
theorem ok_place {f C f3 : Addr} {fd fd3 : FuncData} (F : Fun K "place" "Spots.place" s_Spots_place f fd) (T : SpTxt K mg C) (D3 : Df K mg "told_point" s_told_point ["point"] f3 fd3) (G3 : FnOk P w K mg base CX0 4 f3 fd3 ["point"] (sp_told_point K)) :
    FnOk P w K mg base CX0 5 f fd ["self", "point"] (sp_place K C) := by
  refine F.ok sc_place (fun vs H Q E h => ?_) (fun cdv A outer s H vs Q E hr h => ?_)
  · obtain ⟨x, ts, v, t, r, rfl, _⟩ := h
    rfl
  · obtain ⟨x, ts, v, t, r, rfl, ⟨dx, l, us, h1, h2, h3⟩, ⟨⟨p, a, b, c, rfl, rfl, sq⟩, nz, sm⟩, pl, q⟩ := h
    have hu65 : (A.deeper (envOfC "Spots.place" (defScope s_Spots_place) s.heap.objs.size f cdv)).units + 65 < cLine := by
      have := hr.un
      omega
    refine ⟨_, pss_cons (ps_set (i := 2) sc_place.nd rfl (Or.inl rfl) (pdf D3 G3 hr (pa_cons (pv 1) pa_nil)))
      (pss_cons (ps_if (pt_cmpR (op_notInD hu65) (pv 2) (pe_fld (pv 0) rfl) (by rfl)) (pss_one (ps_ret pe_non)) pss_nil)
      (pss_one (ps_ret (pe_bm PySem.F.plainAttrs_list PySem.F.slot_list_index PySem.F.type_list_index (mt_indexD hu65) (pe_fld (pv 0) rfl) (pa_cons (pv 2) pa_nil))))), ?_⟩
    refine ⟨_, rfl, p, a, b, c, rfl, sq, nz, sm, fun H1 t1 s1 n1 g1 => ?_⟩
    have i1 := s1 _ _ h1
    have i2 := s1 _ _ h2
    have i3 := DpAll.same s1 h3
    refine ⟨_, rfl, _, rfl, x, C, dx, _, _, rfl, i1, T.cl, T.nP, rfl, dTup (plainI [a, b, c]), ts.map dTup, dp_tup (SqT.mk g1), .lst (SqL.mk i2) i3, shaped_tup _, shaped_tups _, ?_⟩
    rw [any_eqv]
    match r, pl with
    | none, pl =>
      have e : decide (plainI [a, b, c] ∈ ts) = false := decide_eq_false pl
      rw [e]
      exact ⟨_, rfl, iteT (q H1 s1)⟩
    | some j, ⟨e1, e2⟩ =>
      have e : decide (plainI [a, b, c] ∈ ts) = true := decide_eq_true (List.mem_of_getElem? e1)
      rw [e]
      refine ⟨_, rfl, iteF ?_⟩
      refine ⟨_, rfl, x, C, dx, _, _, rfl, i1, T.cl, T.nP, rfl, .inl ⟨rfl, _, SqL.mk i2⟩, _, rfl, l, _, dTup (plainI [a, b, c]), ts.map dTup, j, dTup (plainI [a, b, c]), rfl, rfl, .lst (SqL.mk i2) i3, dp_tup (SqT.mk g1), shaped_tups _, shaped_tup _, ?_, ?_, ?_, q H1 s1⟩
      · rw [List.getElem?_map, e1]
        rfl
      · rw [eqv_tup]
        exact decide_eq_true rfl
      · intro m z hm hz
        rw [List.getElem?_map] at hz
        cases et : ts[m]? with
        | none =>
          rw [et] at hz
          cases hz
        | some u =>
          rw [et] at hz
          obtain rfl := Option.some.inj hz
          rw [eqv_tup]
          exact decide_eq_false fun e => e2 m hm (by rw [et, e])
end
end G0

namespace G0
open PySem PySem.Spec PyProof.Rows L2
abbrev s_pot : Stmt := top 20
abbrev s_draw : Stmt := top 21
abbrev s_pick : Stmt := top 22
/-! ### a law's pot: a list of two ints, changed by each draw; D: what else is known -/
structure Wd (p : Addr) (D H : Hp) : Prop where
  s : Same D H
  n : D p = none
  pot : ∃ a b : Int, 0 ≤ a ∧ 0 ≤ b ∧ b < 4294967296 ∧ H p = some (.lst [.int a, .int b])
theorem Wd.pure {p : Addr} {D H H' : Hp} (w : Wd p D H) (e : Same H H') : Wd p D H' := by
  obtain ⟨s, n, a, b, h1, h2, h3, h4⟩ := w
  exact ⟨s.trans e, n, a, b, h1, h2, h3, e _ _ h4⟩
theorem Wd.got {p q : Addr} {D H : Hp} {o : HO} (w : Wd p D H) (h0 : D q = none) (hp : q ≠ p) (h : H q = some o) : Wd p (upd D q o) H := by
  refine ⟨fun b u e => ?_, ?_, w.pot⟩
  · by_cases eb : b = q
    · subst eb
      rw [upd_same] at e
      cases e
      exact h
    · rw [upd_ne eb] at e
      exact w.s _ _ e
  · rw [upd_ne hp.symm]
    exact w.n
theorem Wd.ne {p q : Addr} {D H : Hp} (w : Wd p D H) (h : H q = none) : q ≠ p := by
  obtain ⟨a, b, _, _, _, h4⟩ := w.pot
  exact (ne_of_none h4 h).symm
/-- a new object, made from H on -/
theorem Wd.new {p q : Addr} {D H H' : Hp} {o : HO} (w : Wd p D H) (e : Same H H') (h : H q = none) (hq : H' q = some o) : Wd p (upd D q o) H' ∧ Same D (upd D q o) ∧ (upd D q o) q = some o :=
  ⟨(w.pure e).got (w.s.free h) (w.ne h) hq, same_new (w.s.free h), upd_same⟩
section
variable {P : Program} {w : World} {K : PySem.W.Frag} {mg : Str → Option Value} {base : Heap}
theorem if_te {ta tb : TE} {σ : L2.St} {H : Hp} {Q : V → Hp → Prop} {b : Bool} (S : V → Hp → Prop) (h1 : b = true → ∀ R : V → Hp → Prop, (∀ v H', S v H' → R v H') → ta σ H R) (h2 : b = false → ∀ R : V → Hp → Prop, (∀ v H', S v H' → R v H') → tb σ H R) (k : ∀ v H', S v H' → Q v H') :
    if b = true then ta σ H Q else tb σ H Q := by
  cases b with
  | true => exact iteT (h1 rfl Q k)
  | false => exact iteF (h2 rfl Q k)
/-! _law_pot -/
theorem boot_abs : bootBuiltins "abs" = some (.builtin "abs") := by decide +kernel
theorem boot_max : bootBuiltins "max" = some (.builtin "max") := by decide +kernel
theorem boot_divmod : bootBuiltins "divmod" = some (.builtin "divmod") := by decide +kernel
theorem boot_repr : bootBuiltins "repr" = some (.builtin "repr") := by decide +kernel
def sp_pot (K : PySem.W.Frag) : Sp := fun vs H Q _ => ∃ (l : Addr) (ns : List Int) (k : Nat), vs = [.ref l, .int (k : Nat)] ∧ SqL K H l (ns.map V.int) ∧ ns.length ≤ 63 ∧ k ≤ 63 ∧ ∀ H' p D, Same H H' → Same H D → Wd p D H' → Q (.ref p) H'
theorem sc_pot : FnScope ["_law_script", "_law_k", "_law_cell"] ["_law_script", "_law_k"] (defScope s_pot) := ⟨rfl, rfl, rfl, by decide +kernel, rfl, by decide +kernel, by decide +kernel⟩
theorem ok_pot {f : Addr} {fd : FuncData} (F : Fun K "_law_pot" "_law_pot" s_pot f fd) (B : Blt mg) : FnOk P w K mg base CX0 1 f fd ["_law_script", "_law_k"] (sp_pot K) := by
  refine F.ok sc_pot (fun vs H Q E h => ?_) (fun cdv A outer s H vs Q E hr h => ?_)
  · obtain ⟨l, ns, k, rfl, _⟩ := h
    rfl
  · obtain ⟨l, ns, k, rfl, hs, hn, hk, q⟩ := h
    refine ⟨_, pss_cons (ps_set (i := 2) sc_pot.nd rfl (Or.inl rfl) (pe_ifExp (pt_cmpR op_lt (pv 1) (pe_callB call_len_seq (by rfl) B.len PySem.boot_len (pa_cons (pv 0) pa_nil)) (nomark _))
        (pe_callB call_abs (by rfl) B.abs boot_abs (pa_cons (pe_ix ix_list (pv 0) (pv 1) (fun _ _ => rfl)) pa_nil))
        (pe_op op_add (pe_op op_mul pe_int (pv 1)) pe_int)))
      (pss_one (ps_ret (pe_lst (pa_cons (pe_callB (call_max2 rfl) (by rfl) B.max boot_max (pa_cons pe_int (pa_cons (pe_op op_sub (pv 2) (pe_op op_pow pe_int pe_int)) pa_nil)))
        (pa_cons (pe_op op_add (pe_op op_modN (pe_callTy call_int1 (by rfl) B.int boot_tint (pa_cons (pe_op op_add (pe_op op_add (pe_op op_mul (pe_op op_modN (pe_callTy call_int1 (by rfl) B.int boot_tint (pa_cons (pv 2) pa_nil)) pe_int) pe_int) (pe_op op_mul pe_int (pv 1))) pe_int) pa_nil)) pe_int) pe_int) pa_nil))))), ?_⟩
    refine ⟨_, rfl, _, rfl, l, _, rfl, .inl hs, _, _, rfl, rfl, _, rfl, ?_⟩
    refine if_te (fun v H' => ∃ i : Int, v = .int i ∧ 0 ≤ i ∧ H' = H) (fun e R hR => ?_) (fun e R hR => ?_) ?_
    · have hk2 : k < ns.length := by
        have := of_decide_eq_true e
        rw [List.length_map] at this
        omega
      refine ⟨_, rfl, _, rfl, l, _, _, .int ns[k], rfl, rfl, hs, atI_nat ?_, _, rfl, hR _ _ ⟨_, rfl, ?_, rfl⟩⟩
      · rw [List.getElem?_map, List.getElem?_eq_getElem hk2]
        rfl
      · split <;> omega
    · refine ⟨_, rfl, _, _, rfl, rfl, .inl ⟨by decide, by decide⟩, _, _, rfl, rfl, hR _ _ ⟨_, rfl, by omega, rfl⟩⟩
    rintro v H' ⟨i, rfl, hi, rfl⟩
    refine ⟨_, rfl, _, _, rfl, rfl, ⟨by decide, by decide, by decide⟩, _, _, rfl, rfl, _, _, rfl, ?_⟩
    refine ⟨_, rfl, .inl ⟨_, rfl, _, _, rfl, rfl, (show (2147483549 : Int) ≠ 0 by decide), _, _, rfl, rfl, .inr ⟨by decide, by decide⟩, _, rfl, _, _, rfl, rfl, .inl ⟨by decide, by decide⟩, _, _, rfl, rfl, _, _, rfl, rfl, ?_⟩⟩
    refine .inl ⟨_, rfl, _, _, rfl, rfl, (show (2147483563 : Int) ≠ 0 by decide), _, _, rfl, rfl, ?_⟩
    refine ⟨by show 2 ≤ sizeLine; decide, fun p hp => q _ p H' (same_new hp) (Same.refl _) ⟨same_new hp, hp, _, _, ?_, ?_, ?_, upd_same⟩⟩
    · split <;> omega
    · have := Int.fmod_nonneg_of_pos (i.fmod 2147483549 * 48271 + 7573 * (k : Int) + 31) (b := 2147483563) (by decide)
      omega
    · have := Int.fmod_lt_of_pos (i.fmod 2147483549 * 48271 + 7573 * (k : Int) + 31) (b := 2147483563) (by decide)
      omega

/-! _law_draw -/
def sp_draw : Sp := fun vs H Q _ => ∃ (p : Addr) (m : Int) (D : Hp), vs = [.ref p, .int m] ∧ Wd p D H ∧ 1 ≤ m ∧ m < 1073741824 ∧ ∀ (H' : Hp) (d : Int), Wd p D H' → 0 ≤ d → d < m → Q (.int d) H'
theorem sc_draw : FnScope ["_law_pot_here", "_law_many", "_law_digit"] ["_law_pot_here", "_law_many"] (defScope s_draw) := ⟨rfl, rfl, rfl, by decide +kernel, rfl, by decide +kernel, by decide +kernel⟩
theorem ok_draw {f : Addr} {fd : FuncData} (F : Fun K "_law_draw" "_law_draw" s_draw f fd) (B : Blt mg) : FnOk P w K mg base CX0 1 f fd ["_law_pot_here", "_law_many"] sp_draw := by
  refine F.ok sc_draw (fun vs H Q E h => ?_) (fun cdv A outer s H vs Q E hr h => ?_)
  · obtain ⟨p, m, D, rfl, _⟩ := h
    rfl
  · obtain ⟨p, m, D, rfl, ⟨sD, nD, a, b, ha, hb, hb2, hp⟩, m1, m2, q⟩ := h
    refine ⟨_, pss_cons (ps_if (pt_cmpR op_gt (pe_ix ix_list (pv 0) pe_int (fun _ _ => rfl)) pe_int (nomark _))
        (pss_cons (ps_asg (pe_callB call_divmod (by rfl) B.divmod boot_divmod (pa_cons (pe_ix ix_list (pv 0) pe_int (fun _ _ => rfl)) (pa_cons (pv 1) pa_nil))) (pg_tup rfl (pgs_cons (pg_sub (pv 0) pe_int set_list) (pgs_cons (pg_name (i := 2) sc_draw.nd rfl (.inl rfl)) pgs_nil))))
        (pss_one (ps_ret (pv 2)))) pss_nil)
      (pss_cons (ps_asg (pe_op op_modN (pe_callTy call_int1 (by rfl) B.int boot_tint (pa_cons (pe_op op_add (pe_op op_mul (pe_ix ix_list (pv 0) pe_int (fun _ _ => rfl)) pe_int) pe_int) pa_nil)) pe_int) (pg_sub (pv 0) pe_int set_list))
      (pss_one (ps_ret (pe_op op_modN (pe_callTy call_int1 (by rfl) B.int boot_tint (pa_cons (pe_op op_fdivN (pe_op op_modN (pe_callTy call_int1 (by rfl) B.int boot_tint (pa_cons (pe_op op_mul (pe_ix ix_list (pv 0) pe_int (fun _ _ => rfl)) (pe_ix ix_list (pv 0) pe_int (fun _ _ => rfl))) pa_nil)) pe_int) pe_int) pa_nil)) (pv 1))))), ?_⟩
    have ix0 : atI [V.int a, V.int b] 0 = some (.int a) := rfl
    have ix1 : atI [V.int a, V.int b] 1 = some (.int b) := rfl
    refine ⟨_, rfl, p, _, _, _, rfl, rfl, SqL.mk hp, ix0, _, _, rfl, rfl, _, rfl, ?_⟩
    refine ite2 (fun e => ?_) (fun e => ?_)
    · have ha0 : 0 < a := of_decide_eq_true e
      refine ⟨_, rfl, p, _, _, _, rfl, rfl, SqL.mk hp, ix0, _, rfl, _, _, rfl, ⟨m1, m2⟩, fun t ht => ?_⟩
      have ntp : t ≠ p := (ne_of_none hp ht).symm
      refine ⟨t, _, rfl, SqT.mk upd_same, rfl, _, _, rfl, ?_⟩
      refine ⟨_, rfl, p, [V.int a, V.int b], 0, 0, rfl, rfl, ?_, rfl, ?_⟩
      · rw [upd_ne ntp.symm]
        exact hp
      refine ⟨_, _, rfl, rfl, ?_⟩
      refine ⟨_, rfl, ?_⟩
      refine q _ _ ⟨fun c o ec => ?_, nD, a / m, b, Int.ediv_nonneg ha (by omega), hb, hb2, upd_same⟩ (Int.emod_nonneg a (by omega)) (Int.emod_lt_of_pos a (by omega))
      rw [upd_ne (ne_of_none ec nD), upd_ne (ne_of_none (sD _ _ ec) ht)]
      exact sD _ _ ec
    · have hb31 : (-(2 ^ 64 : Int) < b ∧ b < 2 ^ 64) := ⟨by omega, by omega⟩
      have n87 : (2147483587 : Int) ≠ 0 := by decide
      refine ⟨_, rfl, p, _, _, _, rfl, rfl, SqL.mk hp, ix1, _, _, rfl, rfl, .inl hb31, _, _, rfl, rfl, .inl ⟨_, rfl, _, _, rfl, rfl, n87, ?_⟩⟩
      have c0 := Int.fmod_nonneg_of_pos (b * 39373 + 7573) (b := 2147483587) (by decide)
      have c1 := Int.fmod_lt_of_pos (b * 39373 + 7573) (b := 2147483587) (by decide)
      show gSub (tVar 0) (tC (.int 1)) rSetL (.int ((b * 39373 + 7573).fmod 2147483587)) _ _ _
      revert c0 c1
      generalize (b * 39373 + 7573).fmod 2147483587 = c
      intro c0 c1
      have hc31 : (-(2 ^ 64 : Int) < c ∧ c < 2 ^ 64) := ⟨by omega, by omega⟩
      refine ⟨_, rfl, p, _, 1, 1, rfl, rfl, hp, rfl, ?_⟩
      have hp2 : upd H p (.lst ([V.int a, V.int b].set 1 (.int c))) p = some (.lst [.int a, .int c]) := upd_same
      have iy1 : atI [V.int a, V.int c] 1 = some (.int c) := rfl
      refine ⟨_, rfl, p, _, _, _, rfl, rfl, SqL.mk hp2, iy1, _, rfl, p, _, _, _, rfl, rfl, SqL.mk hp2, iy1, _, _, rfl, rfl, .inl hc31, ?_⟩
      refine .inl ⟨_, rfl, _, _, rfl, rfl, (show (2147483563 : Int) ≠ 0 by decide), _, _, rfl, rfl, (show ((19 : Int) ≠ 0 ∧ (19 : Int).natAbs < 1073741824) by decide), .inl ⟨_, rfl, _, rfl, _, _, rfl, rfl, (show m ≠ 0 by omega), ?_⟩⟩
      refine q _ _ ⟨fun d o ed => ?_, nD, a, c, ha, c0, by omega, hp2⟩ (Int.fmod_nonneg_of_pos _ (by omega)) (Int.fmod_lt_of_pos _ (by omega))
      rw [upd_ne (ne_of_none ed nD)]
      exact sD _ _ ed
end
end G0

namespace G0
open PySem PySem.Spec PyProof.Rows L2
abbrev s_point : Stmt := top 26
abbrev s_given : Stmt := top 27
abbrev s_great : Stmt := top 28
theorem yes_ite {σ : L2.St} {H : Hp} {A B : Hp → Prop} (h : A H) : tYes σ H (fun b H3 => if b = true then A H3 else B H3) := iteT (B := B H) h
theorem Wd.put {p q : Addr} {D H : Hp} {o o' : HO} (w : Wd p (upd D q o) H) (h0 : D q = none) (hp : q ≠ p) : Wd p D (upd H q o') := by
  obtain ⟨s, n, a, b, h1, h2, h3, h4⟩ := w
  rw [upd_ne hp.symm] at n
  refine ⟨fun c u e => ?_, n, a, b, h1, h2, h3, ?_⟩
  · have nc := ne_of_none e h0
    rw [upd_ne nc]
    exact s _ _ (by rw [upd_ne nc]; exact e)
  · rw [upd_ne hp.symm]
    exact h4
/-- what a helper that draws hands back -/
def Gets (p : Addr) (D : Hp) (R : V → Hp → Prop) (Q : VK) : Prop := ∀ v D' H', Same D D' → Wd p D' H' → R v D' → Q v H'
/-- three ints in a list, not all 0, none beyond the bound -/
def Trip (m : Int) (v : V) (D : Hp) : Prop := ∃ q a b c, v = .ref q ∧ D q = some (.lst ([a, b, c].map V.int)) ∧ (∃ n ∈ [a, b, c], n ≠ 0) ∧ ∀ n ∈ [a, b, c], -m ≤ n ∧ n ≤ m
section
variable {P : Program} {w : World} {K : PySem.W.Frag} {mg : Str → Option Value} {base : Heap}
/-! _law_pick -/
def sp_pick (K : PySem.W.Frag) : Sp := fun vs H Q _ => ∃ (p l : Addr) (D : Hp) (us : List V), vs = [.ref p, .ref l] ∧ Wd p D H ∧ SqL K D l us ∧ 1 ≤ us.length ∧ us.length < 1000000 ∧ ∀ (H' : Hp) (v : V), Wd p D H' → v ∈ us → Q v H'
theorem sc_pick : FnScope ["_law_pot_here", "_law_some"] ["_law_pot_here", "_law_some"] (defScope s_pick) := ⟨rfl, rfl, rfl, by decide +kernel, rfl, by decide +kernel, by decide +kernel⟩
theorem ok_pick {f f1 : Addr} {fd fd1 : FuncData} (F : Fun K "_law_pick" "_law_pick" s_pick f fd) (B : Blt mg) (D1 : Df K mg "_law_draw" s_draw ["_law_pot_here", "_law_many"] f1 fd1) (G1 : FnOk P w K mg base CX0 1 f1 fd1 ["_law_pot_here", "_law_many"] sp_draw) :
    FnOk P w K mg base CX0 2 f fd ["_law_pot_here", "_law_some"] (sp_pick K) := by
  refine F.ok sc_pick (fun vs H Q E h => ?_) (fun cdv A outer s H vs Q E hr h => ?_)
  · obtain ⟨p, l, D, us, rfl, _⟩ := h
    rfl
  · obtain ⟨p, l, D, us, rfl, wd, hs, l1, l2, q⟩ := h
    refine ⟨_, pss_one (ps_ret (pe_ix ix_list (pv 1) (pdf D1 G1 hr (pa_cons (pv 0) (pa_cons (pe_callB call_len_seq (by rfl) B.len PySem.boot_len (pa_cons (pv 1) pa_nil)) pa_nil))) (fun _ _ => rfl))), ?_⟩
    refine ⟨_, rfl, _, rfl, _, rfl, l, us, rfl, .inl (wd.s.seq hs), p, _, D, rfl, wd, by omega, by omega, fun H' d wd' d0 d1 => ?_⟩
    obtain ⟨j, rfl⟩ := Int.eq_ofNat_of_zero_le d0
    have hj : j < us.length := by omega
    exact ⟨l, us, _, us[j], rfl, rfl, wd'.s.seq hs, atI_nat (List.getElem?_eq_getElem hj), q _ _ wd' (List.getElem_mem hj)⟩

/-! _law_point -/
def sp_point : Sp := fun vs H Q _ => ∃ (p : Addr) (m : Int) (D : Hp), vs = [.ref p, .int m] ∧ Wd p D H ∧ 1 ≤ m ∧ m < 1000000 ∧ Gets p D (Trip m) Q
theorem sc_point : FnScope ["_law_pot_here", "_law_most", "_law_found", "_law_at"] ["_law_pot_here", "_law_most"] (defScope s_point) := ⟨rfl, rfl, rfl, by decide +kernel, rfl, by decide +kernel, by decide +kernel⟩
theorem three_of {ns : List Int} (h : ns.length = 3) : ∃ a b c, ns = [a, b, c] := by
  match ns, h with
  | [a, b, c], _ => exact ⟨a, b, c, rfl⟩
theorem anyB {ns : List Int} : (ns.any fun n => n != 0) = true ↔ ∃ n ∈ ns, n ≠ 0 := by
  rw [List.any_eq_true]
  constructor
  · rintro ⟨n, hn, e⟩
    exact ⟨n, hn, by simpa using e⟩
  · rintro ⟨n, hn, e⟩
    exact ⟨n, hn, by simpa using e⟩
theorem ok_point {f f1 : Addr} {fd fd1 : FuncData} (F : Fun K "_law_point" "_law_point" s_point f fd) (B : Blt mg) (D1 : Df K mg "_law_draw" s_draw ["_law_pot_here", "_law_many"] f1 fd1) (G1 : FnOk P w K mg base CX0 1 f1 fd1 ["_law_pot_here", "_law_many"] sp_draw) :
    FnOk P w K mg base CX0 2 f fd ["_law_pot_here", "_law_most"] sp_point := by
  refine F.ok sc_point (fun vs H Q E h => ?_) (fun cdv A outer s H vs Q E hr h => ?_)
  · obtain ⟨p, m, D, rfl, _⟩ := h
    rfl
  · obtain ⟨p, m, D, rfl, wd, m1, m2, q⟩ := h
    refine ⟨_, pss_cons (ps_setLc (i := 2) (own := [("_law_at", 3)]) (g := gName 3) (tt := tYes) rfl sc_point.nd rfl rfl (sw_true rfl rfl rfl (by decide +kernel)) (pi_range1 (by rfl) B.range (pa_cons pe_int pa_nil))
        (blkOk_by (N := ["_law_pot_here", "_law_most", "_law_found", "_law_at"]) (sc := defScope s_point) (by decide +kernel)) (fun _ _ _ _ _ => pg_name (i := 3) sc_point.nd rfl (Or.inl rfl)) (fun _ _ _ _ _ => pts_nil)
        (fun _ _ _ _ _ => pe_op op_sub (pdf D1 G1 hr (pa_cons (pv 0) (pa_cons (pe_op op_add (pe_op op_mul pe_int (pv 1)) pe_int) pa_nil))) (pv 1)))
      (pss_one (ps_ret (pe_ifExp (pt_val (pe_callB (cr_anyI rfl) (by rfl) B.any boot_any (pa_cons (pv 2) pa_nil))) (pv 2) (pe_lst (pa_cons pe_int (pa_cons pe_int (pa_cons (pe_op op_sub pe_int (pv 1)) pa_nil))))))), ?_⟩
    refine ⟨3, rfl, by decide, by decide, fun L hL => ?_⟩
    have L0 := wd.s.free hL
    have Lp := wd.ne hL
    refine lc_range (n := 3) (fun i H1 => ∃ acc : List Int, acc.length = i ∧ (∀ n ∈ acc, -m ≤ n ∧ n ≤ m) ∧ Wd p D H1 ∧ H1 L = some (.lst (acc.map V.int))) ⟨[], rfl, (fun _ z => nomatch z), ⟨fun b o e => ?_, wd.n, ?_⟩, upd_same⟩ ?_ ?_
    · rw [upd_ne (ne_of_none e L0)]
      exact wd.s _ _ e
    · obtain ⟨a, b, h1, h2, h3, h4⟩ := wd.pot
      exact ⟨a, b, h1, h2, h3, by rw [upd_ne Lp.symm]; exact h4⟩
    · rintro i H1 hi ⟨acc, el, hb, w1, h1⟩
      refine ⟨rfl, yes_ite ?_⟩
      refine ⟨_, rfl, _, rfl, _, _, rfl, rfl, .inl ⟨by decide, by decide⟩, _, _, rfl, rfl, p, _, _, rfl, w1.got L0 Lp h1, by omega, by omega, fun H2 d w2 d0 d1 => ?_⟩
      refine ⟨_, rfl, _, _, rfl, rfl, _, w2.s _ _ upd_same, ?_, acc ++ [d - m], ?_, ?_, w2.put L0 Lp, ?_⟩
      · rw [List.length_map]
        exact Nat.lt_of_lt_of_le (show acc.length < 3 by omega) (by decide)
      · rw [List.length_append, el]
        rfl
      · intro n hn
        rcases List.mem_append.mp hn with hn | hn
        · exact hb n hn
        · obtain rfl := List.mem_singleton.mp hn
          omega
      · rw [upd_same, List.map_append]
        rfl
    · rintro H1 ⟨acc, el, hb, w1, h1⟩
      obtain ⟨a, b, c, rfl⟩ := three_of el
      refine ⟨_, rfl, L, _, rfl, .inl (SqL.mk h1), _, rfl, ?_⟩
      have w2 := w1.got L0 Lp h1
      refine ite2 (fun e => ?_) (fun e => ?_)
      · exact ⟨_, rfl, q _ _ _ (same_new L0) w2 ⟨L, a, b, c, rfl, upd_same, anyB.mp e, hb⟩⟩
      · refine ⟨_, rfl, _, _, rfl, rfl, by show 3 ≤ sizeLine; decide, fun t ht => ?_⟩
        obtain ⟨w3, s3, h3⟩ := w1.new (same_new ht) ht upd_same
        refine q _ _ _ s3 w3 ⟨t, 0, 1, 0 - m, rfl, h3, ⟨1, by simp, by decide⟩, fun n hn => ?_⟩
        simp only [List.mem_cons, List.not_mem_nil, or_false] at hn
        omega

/-! _law_given -/
def sp_given (K : PySem.W.Frag) : Sp := fun vs H Q _ => ∃ (p l : Addr) (D : Hp) (us : List V), vs = [.ref p, .ref l] ∧ Wd p D H ∧ SqL K D l us ∧ Gets p D (fun v D' => ∃ q, v = .ref q ∧ Sq K D' q us ∧ D q = none) Q
theorem sc_given : FnScope ["_law_pot_here", "_law_point_here"] ["_law_pot_here", "_law_point_here"] (defScope s_given) := ⟨rfl, rfl, rfl, by decide +kernel, rfl, by decide +kernel, by decide +kernel⟩
theorem ok_given {f f1 : Addr} {fd fd1 : FuncData} (F : Fun K "_law_given" "_law_given" s_given f fd) (B : Blt mg) (D1 : Df K mg "_law_draw" s_draw ["_law_pot_here", "_law_many"] f1 fd1) (G1 : FnOk P w K mg base CX0 1 f1 fd1 ["_law_pot_here", "_law_many"] sp_draw) :
    FnOk P w K mg base CX0 2 f fd ["_law_pot_here", "_law_point_here"] (sp_given K) := by
  refine F.ok sc_given (fun vs H Q E h => ?_) (fun cdv A outer s H vs Q E hr h => ?_)
  · obtain ⟨p, l, D, us, rfl, _⟩ := h
    rfl
  · obtain ⟨p, l, D, us, rfl, wd, hs, q⟩ := h
    refine ⟨_, pss_one (ps_ret (pe_ifExp (pt_cmpR op_eq (pdf D1 G1 hr (pa_cons (pv 0) (pa_cons pe_int pa_nil))) pe_int (nomark _)) (pe_callTy call_tuple_of (by rfl) B.tuple boot_ttuple (pa_cons (pv 1) pa_nil)) (pe_callTy call_list_of (by rfl) B.list boot_tlist (pa_cons (pv 1) pa_nil)))), ?_⟩
    refine ⟨_, rfl, p, 2, D, rfl, wd, by decide, by decide, fun H1 d w1 d0 d1 => ⟨rfl, _, rfl, ?_⟩⟩
    refine ite2 (fun e => ?_) (fun e => ?_)
    · refine ⟨_, rfl, l, us, rfl, .inl ⟨w1.s.seq hs, fun t ht => ?_⟩⟩
      obtain ⟨w3, s3, h3⟩ := w1.new (same_new ht) ht upd_same
      exact q _ _ _ s3 w3 ⟨t, rfl, .inr (SqT.mk h3), w1.s.free ht⟩
    · refine ⟨_, rfl, l, us, rfl, .inl (w1.s.seq hs), fun t ht => ?_⟩
      obtain ⟨w3, s3, h3⟩ := w1.new (same_new ht) ht upd_same
      exact q _ _ _ s3 w3 ⟨t, rfl, .inl (SqL.mk h3), w1.s.free ht⟩
end
end G0

namespace G0
open PySem PySem.Spec PyProof.Rows L2
abbrev s_common : Stmt := top 23
abbrev s_told : Stmt := top 24
abbrev s_cross : Stmt := top 25
section
variable {P : Program} {w : World} {K : PySem.W.Frag} {mg : Str → Option Value} {base : Heap}
/-! _law_great -/
def sp_great : Sp := fun vs H Q _ => ∃ (p : Addr) (D : Hp), vs = [.ref p] ∧ Wd p D H ∧ Gets p D (Trip 999999) Q
theorem sc_great : FnScope ["_law_pot_here", "_law_found", "_law_at"] ["_law_pot_here"] (defScope s_great) := ⟨rfl, rfl, rfl, by decide +kernel, rfl, by decide +kernel, by decide +kernel⟩
theorem ok_great {f f1 f2 : Addr} {fd fd1 fd2 : FuncData} (F : Fun K "_law_great" "_law_great" s_great f fd) (B : Blt mg) (D1 : Df K mg "_law_draw" s_draw ["_law_pot_here", "_law_many"] f1 fd1) (G1 : FnOk P w K mg base CX0 1 f1 fd1 ["_law_pot_here", "_law_many"] sp_draw)
    (D2 : Df K mg "_law_pick" s_pick ["_law_pot_here", "_law_some"] f2 fd2) (G2 : FnOk P w K mg base CX0 2 f2 fd2 ["_law_pot_here", "_law_some"] (sp_pick K)) : FnOk P w K mg base CX0 3 f fd ["_law_pot_here"] sp_great := by
  refine F.ok sc_great (fun vs H Q E h => ?_) (fun cdv A outer s H vs Q E hr h => ?_)
  · obtain ⟨p, D, rfl, _⟩ := h
    rfl
  · obtain ⟨p, D, rfl, wd, q⟩ := h
    refine ⟨_, pss_cons (ps_setLc (i := 1) (own := [("_law_at", 2)]) (g := gName 2) (tt := tYes) rfl sc_great.nd rfl rfl (sw_true rfl rfl rfl (by decide +kernel)) (pi_range1 (by rfl) B.range (pa_cons pe_int pa_nil))
        (blkOk_by (N := ["_law_pot_here", "_law_found", "_law_at"]) (sc := defScope s_great) (by decide +kernel)) (fun _ _ _ _ _ => pg_name (i := 2) sc_great.nd rfl (Or.inl rfl)) (fun _ _ _ _ _ => pts_nil)
        (fun _ _ _ _ _ => pdf D2 G2 hr (pa_cons (pv 0) (pa_cons (pe_lst (pa_cons pe_int (pa_cons pe_int (pa_cons (pe_un un_neg pe_int) (pa_cons pe_int (pa_cons pe_int (pa_cons (pe_un un_neg pe_int) (pa_cons pe_int (pa_cons (pe_op op_sub (pdf D1 G1 (hr.mono (by decide)) (pa_cons (pv 0) (pa_cons pe_int pa_nil))) pe_int) pa_nil))))))))) pa_nil))))
      (pss_one (ps_ret (pe_ifExp (pt_val (pe_callB (cr_anyI rfl) (by rfl) B.any boot_any (pa_cons (pv 1) pa_nil))) (pv 1) (pe_lst (pa_cons pe_int (pa_cons pe_int (pa_cons (pe_un un_neg pe_int) pa_nil))))))), ?_⟩
    refine ⟨3, rfl, by decide, by decide, fun L hL => ?_⟩
    have L0 := wd.s.free hL
    have Lp := wd.ne hL
    refine lc_range (n := 3) (fun i H1 => ∃ acc : List Int, acc.length = i ∧ (∀ n ∈ acc, -999999 ≤ n ∧ n ≤ 999999) ∧ Wd p D H1 ∧ H1 L = some (.lst (acc.map V.int))) ⟨[], rfl, (fun _ z => nomatch z), ⟨fun b o e => ?_, wd.n, ?_⟩, upd_same⟩ ?_ ?_
    · rw [upd_ne (ne_of_none e L0)]
      exact wd.s _ _ e
    · obtain ⟨a, b, h1, h2, h3, h4⟩ := wd.pot
      exact ⟨a, b, h1, h2, h3, by rw [upd_ne Lp.symm]; exact h4⟩
    · rintro i H1 hi ⟨acc, el, hb, w1, h1⟩
      refine ⟨rfl, yes_ite ?_⟩
      have wL := w1.got L0 Lp h1
      refine ⟨_, rfl, _, rfl, _, rfl, _, rfl, p, 2001, _, rfl, wL, by decide, by decide, fun H2 d w2 d0 d1 => ⟨_, _, rfl, rfl, by show 8 ≤ sizeLine; decide, fun t ht => ?_⟩⟩
      obtain ⟨w3, s3, h3⟩ := w2.new (same_new ht) ht upd_same
      refine ⟨p, t, _, _, rfl, w3, SqL.mk h3, by show 1 ≤ 8; decide, by show 8 < 1000000; decide, fun H4 v w4 hv => ?_⟩
      obtain ⟨n, rfl, hn⟩ : ∃ n : Int, v = .int n ∧ -999999 ≤ n ∧ n ≤ 999999 := by
        simp only [List.mem_cons, List.not_mem_nil, or_false] at hv
        rcases hv with rfl | rfl | rfl | rfl | rfl | rfl | rfl | rfl <;> exact ⟨_, rfl, by omega, by omega⟩
      have hL4 : H4 L = some (.lst (acc.map V.int)) := w4.s _ _ (s3 _ _ upd_same)
      have wD : Wd p D (upd H4 L (.lst (acc.map V.int ++ [V.int n]))) := by
        refine Wd.put (o := .lst (acc.map V.int)) ⟨fun b o e => w4.s _ _ (s3 _ _ e), ?_, w4.pot⟩ L0 Lp
        rw [upd_ne Lp.symm]
        exact wd.n
      refine ⟨_, hL4, ?_, acc ++ [n], ?_, ?_, wD, ?_⟩
      · rw [List.length_map]
        exact Nat.lt_of_lt_of_le (show acc.length < 3 by omega) (by decide)
      · rw [List.length_append, el]
        rfl
      · intro m hm
        rcases List.mem_append.mp hm with hm | hm
        · exact hb m hm
        · obtain rfl := List.mem_singleton.mp hm
          exact hn
      · rw [upd_same, List.map_append]
        rfl
    · rintro H1 ⟨acc, el, hb, w1, h1⟩
      obtain ⟨a, b, c, rfl⟩ := three_of el
      refine ⟨_, rfl, L, _, rfl, .inl (SqL.mk h1), _, rfl, ?_⟩
      have w2 := w1.got L0 Lp h1
      refine ite2 (fun e => ?_) (fun e => ?_)
      · exact ⟨_, rfl, q _ _ _ (same_new L0) w2 ⟨L, a, b, c, rfl, upd_same, anyB.mp e, hb⟩⟩
      · refine ⟨_, rfl, by show 3 ≤ sizeLine; decide, fun t ht => ?_⟩
        obtain ⟨w3, s3, h3⟩ := w1.new (same_new ht) ht upd_same
        refine q _ _ _ s3 w3 ⟨t, 0, 0, -7, rfl, h3, ⟨-7, by simp, by decide⟩, fun n hn => ?_⟩
        simp only [List.mem_cons, List.not_mem_nil, or_false] at hn
        omega

/-! _law_cross -/
def crossI (a b c d e f : Int) : List Int := [b * f - c * e, c * d - a * f, a * e - b * d]
def sp_cross (K : PySem.W.Frag) : Sp := fun vs H Q _ => ∃ (p q : Addr) (a b c d e f : Int), vs = [.ref p, .ref q] ∧ Sq K H p ([a, b, c].map V.int) ∧ Sq K H q ([d, e, f].map V.int) ∧ (∀ n ∈ [a, b, c], n.natAbs < 2 ^ 60) ∧ ∀ H' t, Same H H' → H t = none → H' t = some (.tup ((crossI a b c d e f).map V.int)) → Q (.ref t) H'
theorem rIx_sq {H : Hp} {p : Addr} {xs : List V} {i : Int} {v : V} {Q : VK} (h : Sq K H p xs) (e : atI xs i = some v) (q : Q v H) : rIx K (.ref p) (.int i) H Q := by
  rcases h with h | h
  · exact .inl ⟨p, xs, i, v, rfl, rfl, h, e, q⟩
  · exact .inr (.inl ⟨p, xs, i, v, rfl, rfl, h, e, q⟩)
theorem sc_cross : FnScope ["_law_one", "_law_other"] ["_law_one", "_law_other"] (defScope s_cross) := ⟨rfl, rfl, rfl, by decide +kernel, rfl, by decide +kernel, by decide +kernel⟩
theorem ok_cross {f : Addr} {fd : FuncData} (F : Fun K "_law_cross" "_law_cross" s_cross f fd) : FnOk P w K mg base CX0 1 f fd ["_law_one", "_law_other"] (sp_cross K) := by
  refine F.ok sc_cross (fun vs H Q E h => ?_) (fun cdv A outer s H vs Q E hr h => ?_)
  · obtain ⟨p, q, a, b, c, d, e, f, rfl, _⟩ := h
    rfl
  · obtain ⟨p, q, a, b, c, d, e, f, rfl, h1, h2, hb, k⟩ := h
    have ix : ∀ {X : Cx} {x y : Str} {p1 p2 p3 : Pos} {n : Int} {j : Nat} {c0 : Pos} (i : Nat) (_ : X.N[i]? = some x) (_ : Vis X.env.scope x) (_ : (x == ("__debug__" : Str)) = false) (_ : (x == ("__classdict__" : Str)) = false), True := fun _ _ _ _ _ => trivial
    refine ⟨_, pss_one (ps_ret (pe_tup (pa_cons (pe_op op_sub (pe_op op_mul (pe_ix ix_seq (pv 0) pe_int (fun _ _ => rfl)) (pe_ix ix_seq (pv 1) pe_int (fun _ _ => rfl))) (pe_op op_mul (pe_ix ix_seq (pv 0) pe_int (fun _ _ => rfl)) (pe_ix ix_seq (pv 1) pe_int (fun _ _ => rfl))))
      (pa_cons (pe_op op_sub (pe_op op_mul (pe_ix ix_seq (pv 0) pe_int (fun _ _ => rfl)) (pe_ix ix_seq (pv 1) pe_int (fun _ _ => rfl))) (pe_op op_mul (pe_ix ix_seq (pv 0) pe_int (fun _ _ => rfl)) (pe_ix ix_seq (pv 1) pe_int (fun _ _ => rfl))))
      (pa_cons (pe_op op_sub (pe_op op_mul (pe_ix ix_seq (pv 0) pe_int (fun _ _ => rfl)) (pe_ix ix_seq (pv 1) pe_int (fun _ _ => rfl))) (pe_op op_mul (pe_ix ix_seq (pv 0) pe_int (fun _ _ => rfl)) (pe_ix ix_seq (pv 1) pe_int (fun _ _ => rfl)))) pa_nil))))), ?_⟩
    have e60 : (2 : Nat) ^ 60 = 1152921504606846976 := rfl
    have ba := hb a (by simp)
    have bb := hb b (by simp)
    have bc := hb c (by simp)
    have ia : (-(2 ^ 64 : Int) < a ∧ a < 2 ^ 64) := ⟨by omega, by omega⟩
    have ib : (-(2 ^ 64 : Int) < b ∧ b < 2 ^ 64) := ⟨by omega, by omega⟩
    have ic : (-(2 ^ 64 : Int) < c ∧ c < 2 ^ 64) := ⟨by omega, by omega⟩
    refine ⟨_, rfl, rIx_sq h1 (v := .int b) rfl ⟨_, rfl, rIx_sq h2 (v := .int f) rfl ⟨_, _, rfl, rfl, .inl ib, ?_⟩⟩⟩
    refine ⟨_, rfl, rIx_sq h1 (v := .int c) rfl ⟨_, rfl, rIx_sq h2 (v := .int e) rfl ⟨_, _, rfl, rfl, .inl ic, ?_⟩⟩⟩
    refine ⟨_, _, rfl, rfl, ?_⟩
    refine ⟨_, rfl, rIx_sq h1 (v := .int c) rfl ⟨_, rfl, rIx_sq h2 (v := .int d) rfl ⟨_, _, rfl, rfl, .inl ic, ?_⟩⟩⟩
    refine ⟨_, rfl, rIx_sq h1 (v := .int a) rfl ⟨_, rfl, rIx_sq h2 (v := .int f) rfl ⟨_, _, rfl, rfl, .inl ia, ?_⟩⟩⟩
    refine ⟨_, _, rfl, rfl, ?_⟩
    refine ⟨_, rfl, rIx_sq h1 (v := .int a) rfl ⟨_, rfl, rIx_sq h2 (v := .int e) rfl ⟨_, _, rfl, rfl, .inl ia, ?_⟩⟩⟩
    refine ⟨_, rfl, rIx_sq h1 (v := .int b) rfl ⟨_, rfl, rIx_sq h2 (v := .int d) rfl ⟨_, _, rfl, rfl, .inl ib, ?_⟩⟩⟩
    exact ⟨_, _, rfl, rfl, by show 3 ≤ sizeLine; decide, fun t ht => k _ t (same_new ht) ht upd_same⟩
end
end G0

namespace G0
open PySem PySem.Spec PyProof.Rows L2
section
variable {P : Program} {w : World} {K : PySem.W.Frag} {mg : Str → Option Value} {base : Heap}
/-! _law_common: the greatest common divisor, by Euclid -/
theorem gcd_step {f o : Int} (hf : 0 ≤ f) (ho : 0 < o) : 0 ≤ f.fmod o ∧ f.fmod o < o ∧ Nat.gcd o.natAbs (f.fmod o).natAbs = Nat.gcd f.natAbs o.natAbs := by
  have h1 := Int.fmod_nonneg_of_pos f ho
  have h2 := Int.fmod_lt_of_pos f ho
  refine ⟨h1, h2, ?_⟩
  rw [Int.fmod_eq_emod_of_nonneg _ (by omega)]
  have e : (f % o).natAbs = f.natAbs % o.natAbs := Int.natAbs_emod_of_nonneg hf _
  rw [e, Nat.gcd_comm, ← Nat.gcd_rec, Nat.gcd_comm]
def sp_common (K : PySem.W.Frag) : Sp := fun vs H Q _ => ∃ (p : Addr) (ns : List Int), vs = [.ref p] ∧ SqL K H p (ns.map V.int) ∧ Q (.int (gcdL ns)) H
theorem sc_common : FnScope ["_law_numbers", "_law_found", "_law_number", "_law_other"] ["_law_numbers"] (defScope s_common) := ⟨rfl, rfl, rfl, by decide +kernel, rfl, by decide +kernel, by decide +kernel⟩
theorem ok_common {f : Addr} {fd : FuncData} (F : Fun K "_law_common" "_law_common" s_common f fd) (B : Blt mg) : FnOk P w K mg base CX0 1 f fd ["_law_numbers"] (sp_common K) := by
  refine F.ok sc_common (fun vs H Q E h => ?_) (fun cdv A outer s H vs Q E hr h => ?_)
  · obtain ⟨p, ns, rfl, _⟩ := h
    rfl
  · obtain ⟨p, ns, rfl, hs, q⟩ := h
    refine ⟨_, pss_cons (ps_set (i := 1) sc_common.nd rfl (Or.inl rfl) pe_int) (pss_cons (ps_for PassesOwn.never rfl (pi_list (pv 0)) (pg_name (i := 2) sc_common.nd rfl (Or.inl rfl))
        (pss_cons (ps_set (i := 3) sc_common.nd rfl (Or.inl rfl) (pe_callB call_abs (by rfl) B.abs boot_abs (pa_cons (pv 2) pa_nil)))
          (pss_one (ps_while PassesOwn.never (pt_cmpR op_gt (pv 3) pe_int (nomark _))
            (pss_one (ps_par (i := 1) (j := 3) rfl sc_common.nd rfl rfl (by decide) rfl rfl (pa_cons (pv 3) (pa_cons (pe_op op_modN (pe_callTy call_int1 (by rfl) B.int boot_tint (pa_cons (pv 1) pa_nil)) (pv 3)) pa_nil)) (by rfl))))))) (pss_one (ps_ret (pv 1)))), ?_⟩
    refine ⟨_, rfl, p, rfl, ⟨_, hs⟩, for_list (K := K) (a := p) (xs := ns.map V.int) (fun i σ H1 => ∃ y z, σ = [some (.ref p), some (.int (gcdL (ns.take i))), y, z] ∧ H1 = H) ⟨none, none, rfl, rfl⟩ ?_ ?_ ?_⟩
    · rintro i σ H1 _ ⟨y, z, rfl, rfl⟩
      exact hs
    · rintro i x σ H1 hx ⟨y, z, rfl, rfl⟩
      obtain ⟨n, hn, rfl⟩ := at_int hx
      refine ⟨_, rfl, _, rfl, ?_⟩
      have g0 := gcdL_nonneg (ns.take i)
      have an : (0 : Int) ≤ (if n < 0 then -n else n) ∧ (if n < 0 then -n else n).natAbs = n.natAbs := by split <;> omega
      refine while_by (fun σ H2 => ∃ f o : Int, σ = [some (.ref p), some (.int f), some (.int n), some (.int o)] ∧ H2 = H1 ∧ 0 ≤ f ∧ 0 ≤ o ∧ Nat.gcd f.natAbs o.natAbs = Nat.gcd (gcdL (ns.take i)).natAbs n.natAbs)
        (fun σ _ => match σ with | [_, _, _, some (.int o)] => o.toNat | _ => 0) ⟨_, _, rfl, rfl, g0, an.1, by rw [an.2]⟩ ?_ ?_
      · rintro σ H2 ⟨f, o, rfl, rfl, f0, o0, eg⟩
        refine ⟨_, rfl, _, _, rfl, rfl, _, rfl, ?_⟩
        refine ite2 (fun e => ?_) (fun e => ?_)
        · have op : 0 < o := of_decide_eq_true e
          obtain ⟨s1, s2, s3⟩ := gcd_step f0 op
          refine ⟨_, rfl, _, rfl, .inl ⟨_, rfl, _, rfl, _, _, rfl, rfl, (show o ≠ 0 by omega), ?_⟩⟩
          refine ⟨_, _, rfl, ⟨_, _, rfl, rfl, o0, s1, s3.trans eg⟩, ?_⟩
          show (f.fmod o).toNat < o.toNat
          omega
        · have oz : o = 0 := by
            have : ¬ 0 < o := fun z => e (decide_eq_true z)
            omega
          subst oz
          refine ⟨some (.int n), some (.int 0), ?_, rfl⟩
          rw [gcdL_take hn, ← eg]
          have : ((Nat.gcd f.natAbs (0 : Int).natAbs : Nat) : Int) = f := by
            show ((Nat.gcd f.natAbs 0 : Nat) : Int) = f
            rw [Nat.gcd_zero_right]
            omega
          rw [this]
      · rintro σ H2 Q1 Q2 h12 ⟨v, e1, i1, j1, e2, e3, k1, e4, q1⟩
        exact ⟨v, e1, i1, j1, e2, e3, k1, e4, h12 _ _ q1⟩
    · rintro σ H1 ⟨y, z, rfl, rfl⟩
      rw [List.length_map, List.take_length]
      exact ⟨_, rfl, q⟩
/-! _law_told: the told point, reckoned otherwise -/
theorem dvd_fdiv {g n : Int} (hg : 0 < g) (h : g ∣ n) : ∃ k, n = g * k ∧ n.fdiv g = k ∧ n.fdiv (-g) = -k := by
  obtain ⟨k, rfl⟩ := h
  refine ⟨k, rfl, Int.mul_fdiv_cancel_left k (by omega), ?_⟩
  have e : g * k = -g * -k := by rw [Int.neg_mul_neg]
  rw [e]
  exact Int.mul_fdiv_cancel_left (-k) (by omega)
theorem nz_map {d : Int → Int} : ∀ {ns : List Int}, (∀ n ∈ ns, d n = 0 ↔ n = 0) → nz (ns.map d) = (nz ns).map d
  | [], _ => rfl
  | n :: ns, h => by
    have ih := nz_map (d := d) (ns := ns) fun m hm => h m (List.mem_cons_of_mem _ hm)
    have e := h n List.mem_cons_self
    unfold nz at ih ⊢
    by_cases h0 : n = 0
    · have h1 : d n = 0 := e.mpr h0
      rw [List.map_cons, List.filter_cons_of_neg (by simp [h1]), List.filter_cons_of_neg (by simp [h0]), ih]
    · have h1 : d n ≠ 0 := fun z => h0 (e.mp z)
      rw [List.map_cons, List.filter_cons_of_pos (by simp [h1]), List.filter_cons_of_pos (by simp [h0]), ih, List.map_cons]
structure ToldBy (ns : List Int) : Prop where
  nz : ∃ n ∈ ns.map (fun n => n.fdiv (gcdL ns)), n ≠ 0
  pos : 0 < firstN (ns.map fun n => n.fdiv (gcdL ns)) → ns.map (fun n => n.fdiv (gcdL ns)) = plainI ns
  neg : ¬ 0 < firstN (ns.map fun n => n.fdiv (gcdL ns)) → (ns.map fun n => n.fdiv (gcdL ns)).map (fun n => 0 - n) = plainI ns
theorem told_by {ns : List Int} (h : ∃ n ∈ ns, n ≠ 0) : ToldBy ns := by
  have gp := gcdL_pos h
  have z : ∀ n ∈ ns, n.fdiv (gcdL ns) = 0 ↔ n = 0 := by
    intro n hn
    obtain ⟨k, e1, e2, _⟩ := dvd_fdiv gp (gcdL_dvd hn)
    rw [e2]
    constructor
    · intro ek
      rw [e1, ek, Int.mul_zero]
    · intro en
      rw [en] at e1
      rcases Int.mul_eq_zero.mp e1.symm with e | e
      · omega
      · exact e
  obtain ⟨h0, hm, hne⟩ := nz_head h
  have ef : firstN (ns.map fun n => n.fdiv (gcdL ns)) = (firstN ns).fdiv (gcdL ns) := by
    have e1 : (nz (ns.map fun n => n.fdiv (gcdL ns)))[0]? = some ((firstN ns).fdiv (gcdL ns)) := by
      rw [nz_map z, List.getElem?_map, h0]
      rfl
    obtain ⟨n, hn, hn0⟩ := h
    have e2 := (nz_head (ns := ns.map fun n => n.fdiv (gcdL ns)) ⟨_, List.mem_map.mpr ⟨n, hn, rfl⟩, fun q => hn0 ((z n hn).mp q)⟩).1
    exact Option.some.inj (e2.symm.trans e1)
  obtain ⟨k, e1, e2, _⟩ := dvd_fdiv gp (gcdL_dvd hm)
  refine ⟨?_, fun hp => ?_, fun hp => ?_⟩
  · exact ⟨_, List.mem_map.mpr ⟨firstN ns, hm, rfl⟩, fun q => hne ((z _ hm).mp q)⟩
  · rw [ef, e2] at hp
    have : ¬ firstN ns < 0 := by
      rw [e1]
      have := Int.mul_pos gp hp
      omega
    unfold plainI signed
    rw [if_neg this]
  · rw [ef, e2] at hp
    have : firstN ns < 0 := by
      have h1 : k ≤ 0 := by omega
      have h2 : firstN ns ≤ 0 := by
        rw [e1]
        exact Int.mul_nonpos_of_nonneg_of_nonpos (by omega) h1
      omega
    unfold plainI signed
    rw [if_pos this, List.map_map]
    refine List.map_congr_left fun n hn => ?_
    obtain ⟨k, _, e2, e3⟩ := dvd_fdiv gp (gcdL_dvd hn)
    show 0 - n.fdiv (gcdL ns) = n.fdiv (-gcdL ns)
    rw [e2, e3]
    omega
end
end G0

namespace G0
open PySem PySem.Spec PyProof.Rows L2
section
variable {P : Program} {w : World} {K : PySem.W.Frag} {mg : Str → Option Value} {base : Heap}
/-! _law_told -/
def sp_told (K : PySem.W.Frag) : Sp := fun vs H Q _ => ∃ (p : Addr) (ns : List Int), vs = [.ref p] ∧ SqL K H p (ns.map V.int) ∧ (∃ n ∈ ns, n ≠ 0) ∧ (∀ n ∈ ns, n.natAbs < 2 ^ 30) ∧ ns.length ≤ 1000 ∧ ∀ H' t, Same H H' → H t = none → H' t = some (.tup ((plainI ns).map V.int)) → Q (.ref t) H'
theorem sc_told : FnScope ["_law_point_here", "_law_shared", "_law_found", "_law_first", "_law_number"] ["_law_point_here"] (defScope s_told) := ⟨rfl, rfl, rfl, by decide +kernel, rfl, by decide +kernel, by decide +kernel⟩
theorem ok_told {f f1 : Addr} {fd fd1 : FuncData} (F : Fun K "_law_told" "_law_told" s_told f fd) (B : Blt mg) (D1 : Df K mg "_law_common" s_common ["_law_numbers"] f1 fd1) (G1 : FnOk P w K mg base CX0 1 f1 fd1 ["_law_numbers"] (sp_common K)) : FnOk P w K mg base CX0 2 f fd ["_law_point_here"] (sp_told K) := by
  refine F.ok sc_told (fun vs H Q E h => ?_) (fun cdv A outer s H vs Q E hr h => ?_)
  · obtain ⟨p, ns, rfl, _⟩ := h
    rfl
  · obtain ⟨p, ns, rfl, hs, hz, hb, hl, q⟩ := h
    have gp := gcdL_pos hz
    obtain ⟨tz, tp, tn⟩ := told_by hz
    have hg : (gcdL ns).natAbs < 1073741824 := by
      obtain ⟨n, hn, h0⟩ := hz
      have := gcdL_le hn h0
      have := hb n hn
      have e30 : (2 : Nat) ^ 30 = 1073741824 := rfl
      omega
    have hlen : (ns.map V.int).length < sizeLine := by
      rw [List.length_map]
      exact Nat.lt_of_le_of_lt hl (by decide)
    refine ⟨_, pss_cons (ps_set (i := 1) sc_told.nd rfl (Or.inr rfl) (pdf D1 G1 hr (pa_cons (pv 0) pa_nil)))
      (pss_cons (ps_set (i := 2) sc_told.nd rfl (Or.inl rfl) (pe_callTy call_tuple_of (by rfl) B.tuple boot_ttuple (pa_cons (pe_lc (own := [("_law_number", 4)]) (g := gName 4) (tt := tYes) rfl sc_told.nd (pi_list (pv 0)) (blkOk_by (N := ["_law_point_here", "_law_shared", "_law_found", "_law_first", "_law_number"]) (sc := defScope s_told) (by decide +kernel)) (fun _ _ _ _ _ => pg_name (i := 4) sc_told.nd rfl (Or.inl rfl))
          (fun _ _ _ _ _ => pts_nil) (fun _ _ _ _ _ => pe_op op_fdivN (pe_callTy call_int1 (by rfl) B.int boot_tint (pa_cons (pv 4) pa_nil)) (pv 1))) pa_nil)))
      (pss_cons (ps_set (i := 3) sc_told.nd rfl (Or.inl rfl) (pe_ix ix_list (pe_lc (own := [("_law_number", 4)]) (g := gName 4) rfl sc_told.nd (pi_tup (pv 2)) (blkOk_by (N := ["_law_point_here", "_law_shared", "_law_found", "_law_first", "_law_number"]) (sc := defScope s_told) (by decide +kernel)) (fun _ _ _ _ _ => pg_name (i := 4) sc_told.nd rfl (Or.inl rfl))
          (fun _ _ _ _ _ => pts_one (pt_cmpR op_ne (pv 4) pe_int (nomark _))) (fun _ _ _ _ _ => pv 4)) pe_int (fun _ _ => rfl)))
      (pss_one (ps_ret (pe_ifExp (pt_cmpR op_gt (pv 3) pe_int (nomark _)) (pv 2) (pe_callTy call_tuple_of (by rfl) B.tuple boot_ttuple (pa_cons (pe_lc (own := [("_law_number", 4)]) (g := gName 4) (tt := tYes) rfl sc_told.nd (pi_tup (pv 2)) (blkOk_by (N := ["_law_point_here", "_law_shared", "_law_found", "_law_first", "_law_number"]) (sc := defScope s_told) (by decide +kernel)) (fun _ _ _ _ _ => pg_name (i := 4) sc_told.nd rfl (Or.inl rfl))
          (fun _ _ _ _ _ => pts_nil) (fun _ _ _ _ _ => pe_op op_sub pe_int (pv 4))) pa_nil))))))), ?_⟩
    refine ⟨_, rfl, p, ns, rfl, hs, ?_⟩
    -- found = tuple([int(n) // shared for n in point])
    let F1 : V → Option V := fun x => match x with | .int n => some (.int (n.fdiv (gcdL ns))) | _ => none
    refine ⟨_, rfl, p, rfl, ⟨_, hs⟩, fun L1 hL1 => lcL F1 hs hlen hL1 (fun x hx H1 _ G N _ g2 => ?_) fun H1 s1 h1 => ?_⟩
    · obtain ⟨n, hn, rfl⟩ := mem_int hx
      refine ⟨rfl, yes_ite ?_⟩
      exact ⟨_, rfl, .inl ⟨_, rfl, _, rfl, _, _, rfl, rfl, ⟨by omega, hg⟩, g2 _ rfl _ (Same.refl _)⟩⟩
    have e1 : fm F1 (ns.map V.int) = (ns.map fun n => n.fdiv (gcdL ns)).map V.int := by
      rw [fm_ints (f := fun n => some (n.fdiv (gcdL ns))) (fun _ => rfl), fmap_some]
    rw [e1] at h1
    revert tz tp tn h1
    have hl2 : (ns.map fun n => n.fdiv (gcdL ns)).length = ns.length := List.length_map _
    revert hl2
    generalize (ns.map fun n => n.fdiv (gcdL ns)) = fs
    intro hl2 tz tp tn h1
    refine ⟨L1, _, rfl, .inl ⟨SqL.mk h1, fun t ht => ?_⟩⟩
    have s2 : Same H (upd H1 t (.tup (fs.map V.int))) := s1.trans (same_new ht)
    have ht2 : SqT K (upd H1 t (.tup (fs.map V.int))) t (fs.map V.int) := SqT.mk upd_same
    have hlen2 : (fs.map V.int).length < sizeLine := by
      rw [List.length_map, hl2]
      exact Nat.lt_of_le_of_lt hl (by decide)
    obtain ⟨hh, hmem, hne⟩ := nz_head tz
    -- first = [n for n in found if n != 0][0]
    let FN : V → Option V := fun x => match x with | .int n => if n ≠ 0 then some (.int n) else none | _ => none
    refine ⟨_, rfl, t, rfl, ⟨_, ht2⟩, fun L2 hL2 => lcT FN ht2 hlen2 hL2 (fun x hx H2 _ G N g1 g2 => ?_) fun H2 s3 h2 => ?_⟩
    · obtain ⟨n, hn, rfl⟩ := mem_int hx
      refine ⟨rfl, ?_⟩
      refine ⟨_, rfl, rfl, _, rfl, ?_⟩
      by_cases h0 : n = 0
      · subst h0
        exact g1 (by simp [FN]) _ (Same.refl _)
      · have hd : (!decide (V.int n = V.int 0)) = true := by simp [h0]
        rw [hd]
        exact iteT ⟨_, rfl, g2 _ (by simp [FN, h0]) _ (Same.refl _)⟩
    have at0 : atI (fm FN (fs.map V.int)) 0 = some (.int (firstN fs)) := by
      rw [fm_ints (f := fun n => if n ≠ 0 then some n else none) (fun n => by by_cases h0 : n = 0 <;> simp [FN, h0]), nz_fm]
      refine atI_nat (j := 0) ?_
      rw [List.getElem?_map, hh]
      rfl
    refine ⟨L2, _, 0, _, rfl, rfl, SqL.mk h2, at0, ?_⟩
    refine ⟨_, rfl, _, _, rfl, rfl, _, rfl, ?_⟩
    have ht3 := same_t s3 ht2
    refine ite2 (fun e => ?_) (fun e => ?_)
    · rw [tp (of_decide_eq_true e)] at ht3 ht2 s3
      refine ⟨_, rfl, ?_⟩
      refine q _ t (s2.trans ?_) (s1.free ht) ?_
      · rw [tp (of_decide_eq_true e)]
        exact s3
      · exact s3 _ _ upd_same
    · let F3 : V → Option V := fun x => match x with | .int n => some (.int (0 - n)) | _ => none
      refine ⟨_, rfl, t, rfl, ⟨_, ht3⟩, fun L3 hL3 => lcT F3 ht3 hlen2 hL3 (fun x hx H3 _ G N _ g2 => ?_) fun H3 s4 h3 => ?_⟩
      · obtain ⟨n, hn, rfl⟩ := mem_int hx
        refine ⟨rfl, yes_ite ?_⟩
        exact ⟨_, rfl, _, _, rfl, rfl, g2 _ rfl _ (Same.refl _)⟩
      have e3 : fm F3 (fs.map V.int) = (plainI ns).map V.int := by
        rw [fm_ints (f := fun n => some (0 - n)) (fun _ => rfl), fmap_some, tn fun z => e (decide_eq_true z)]
      rw [e3] at h3
      have s24 := (s2.trans s3).trans s4
      exact ⟨L3, _, rfl, .inl ⟨SqL.mk h3, fun u hu => q _ u (s24.trans (same_new hu)) (s24.free hu) upd_same⟩⟩
end
end G0

namespace G0
open PySem PySem.Spec PyProof.Rows L2
theorem gcd_scale (t : Int) : ∀ (ns : List Int) (c : Int), (ns.map fun n => t * n).foldl (fun c n => ((Nat.gcd c.natAbs n.natAbs : Nat) : Int)) ((t.natAbs : Int) * c) = (t.natAbs : Int) * ns.foldl (fun c n => ((Nat.gcd c.natAbs n.natAbs : Nat) : Int)) c
  | [], c => rfl
  | n :: ns, c => by
    rw [List.map_cons, List.foldl_cons, List.foldl_cons]
    have e : ((Nat.gcd ((t.natAbs : Int) * c).natAbs (t * n).natAbs : Nat) : Int) = (t.natAbs : Int) * ((Nat.gcd c.natAbs n.natAbs : Nat) : Int) := by
      rw [Int.natAbs_mul, Int.natAbs_mul, Int.natAbs_natCast, Nat.gcd_mul_left, Int.natCast_mul]
    rw [e]
    exact gcd_scale t ns _
theorem gcdL_scale (t : Int) (ns : List Int) : gcdL (ns.map fun n => t * n) = (t.natAbs : Int) * gcdL ns := by
  have := gcd_scale t ns 0
  rw [Int.mul_zero] at this
  exact this
theorem firstN_scale {t : Int} (ht : t ≠ 0) {ns : List Int} (h : ∃ n ∈ ns, n ≠ 0) : firstN (ns.map fun n => t * n) = t * firstN ns := by
  have z : ∀ n ∈ ns, t * n = 0 ↔ n = 0 := by
    intro n _
    constructor
    · intro e
      rcases Int.mul_eq_zero.mp e with e | e
      · exact absurd e ht
      · exact e
    · intro e
      rw [e, Int.mul_zero]
  obtain ⟨h0, _, _⟩ := nz_head h
  obtain ⟨n, hn, hn0⟩ := h
  have e1 : (nz (ns.map fun n => t * n))[0]? = some (t * firstN ns) := by
    rw [nz_map z, List.getElem?_map, h0]
    rfl
  have e2 := (nz_head (ns := ns.map fun n => t * n) ⟨_, List.mem_map.mpr ⟨n, hn, rfl⟩, fun q => hn0 ((z n hn).mp q)⟩).1
  exact Option.some.inj (e2.symm.trans e1)
theorem signed_scale {t : Int} (ht : t ≠ 0) {ns : List Int} (h : ∃ n ∈ ns, n ≠ 0) : signed (ns.map fun n => t * n) = t * signed ns := by
  have ef := firstN_scale ht h
  have fne := (nz_head h).2.2
  unfold signed
  rw [ef, gcdL_scale]
  by_cases tp : 0 < t
  · have e : (t.natAbs : Int) = t := by omega
    rw [e]
    by_cases fp : firstN ns < 0
    · rw [if_pos fp, if_pos (Int.mul_neg_of_pos_of_neg tp fp), Int.mul_neg]
    · have : ¬ t * firstN ns < 0 := by
        have := Int.mul_pos tp (show 0 < firstN ns by omega)
        omega
      rw [if_neg fp, if_neg this]
  · have tn : t < 0 := by omega
    have e : (t.natAbs : Int) = -t := by omega
    rw [e]
    by_cases fp : firstN ns < 0
    · have : ¬ t * firstN ns < 0 := by
        have := Int.mul_pos_of_neg_of_neg tn fp
        omega
      rw [if_pos fp, if_neg this, Int.neg_mul, Int.mul_neg]
    · have : t * firstN ns < 0 := Int.mul_neg_of_neg_of_pos tn (by omega)
      rw [if_neg fp, if_pos this, Int.neg_mul, Int.neg_neg]
theorem signed_ne {ns : List Int} (h : ∃ n ∈ ns, n ≠ 0) : signed ns ≠ 0 := by
  have := gcdL_pos h
  unfold signed
  split <;> omega
theorem signed_dvd {ns : List Int} {n : Int} (h : n ∈ ns) : signed ns ∣ n := by
  unfold signed
  split
  · exact Int.neg_dvd.mpr (gcdL_dvd h)
  · exact gcdL_dvd h
/-- told alike, whatever multiple -/
theorem plainI_scale {t : Int} (ht : t ≠ 0) {ns : List Int} (h : ∃ n ∈ ns, n ≠ 0) : plainI (ns.map fun n => t * n) = plainI ns := by
  unfold plainI
  rw [signed_scale ht h, List.map_map]
  refine List.map_congr_left fun n hn => ?_
  obtain ⟨k, hk⟩ := signed_dvd hn
  have c0 := signed_ne h
  show (t * n).fdiv (t * signed ns) = n.fdiv (signed ns)
  rw [hk, Int.mul_fdiv_cancel_left k c0, ← Int.mul_assoc]
  exact Int.mul_fdiv_cancel_left k (fun e => by
    rcases Int.mul_eq_zero.mp e with e | e
    · exact ht e
    · exact c0 e)
theorem plainI_back {ns : List Int} (h : ∃ n ∈ ns, n ≠ 0) : (plainI ns).map (fun n => signed ns * n) = ns := by
  unfold plainI
  rw [List.map_map]
  have : ∀ n ∈ ns, ((fun n => signed ns * n) ∘ fun n => n.fdiv (signed ns)) n = n := by
    intro n hn
    obtain ⟨k, hk⟩ := signed_dvd hn
    have c0 := signed_ne h
    show signed ns * n.fdiv (signed ns) = n
    rw [hk, Int.mul_fdiv_cancel_left k c0]
  conv => rhs; rw [← List.map_id ns]
  exact List.map_congr_left this
theorem plainI_nz {ns : List Int} (h : ∃ n ∈ ns, n ≠ 0) : ∃ n ∈ plainI ns, n ≠ 0 := by
  refine Classical.byContradiction fun no => ?_
  have all0 : ∀ m ∈ plainI ns, m = 0 := fun m hm => Classical.byContradiction fun z => no ⟨m, hm, z⟩
  obtain ⟨n, hn, h0⟩ := h
  have hb := plainI_back ⟨n, hn, h0⟩
  rw [← hb] at hn
  obtain ⟨m, hm, e⟩ := List.mem_map.mp hn
  rw [all0 m hm, Int.mul_zero] at e
  exact h0 e.symm
theorem plainI_told {ns : List Int} (h : ∃ n ∈ ns, n ≠ 0) : plainI (plainI ns) = plainI ns := by
  have e := plainI_scale (signed_ne h) (plainI_nz h)
  rw [plainI_back h] at e
  exact e.symm
theorem plainI_le {ns : List Int} (h : ∃ n ∈ ns, n ≠ 0) {b : Nat} (hb : ∀ n ∈ ns, n.natAbs < b) : ∀ m ∈ plainI ns, m.natAbs < b := by
  intro m hm
  unfold plainI at hm
  obtain ⟨n, hn, rfl⟩ := List.mem_map.mp hm
  obtain ⟨k, hk⟩ := signed_dvd hn
  have c0 := signed_ne h
  have e : n.fdiv (signed ns) = k := by
    rw [hk]
    exact Int.mul_fdiv_cancel_left k c0
  have := hb n hn
  rw [e]
  refine Nat.lt_of_le_of_lt ?_ this
  rw [hk, Int.natAbs_mul]
  exact Nat.le_mul_of_pos_left _ (Int.natAbs_pos.mpr c0)
theorem plainI_neg {ns : List Int} (h : ∃ n ∈ ns, n ≠ 0) : plainI (ns.map fun n => 0 - n) = plainI ns := by
  have e : (ns.map fun n => 0 - n) = ns.map fun n => -1 * n := List.map_congr_left fun n _ => by omega
  rw [e]
  exact plainI_scale (by decide) h
theorem plainI_len (ns : List Int) : (plainI ns).length = ns.length := List.length_map _
/-- two threes are told alike exactly if they are multiples of one another -/
theorem cross_zero {a b c d e f : Int} (h1 : ∃ n ∈ [a, b, c], n ≠ 0) (h2 : ∃ n ∈ [d, e, f], n ≠ 0) : plainI [a, b, c] = plainI [d, e, f] ↔ ¬ ∃ n ∈ crossI a b c d e f, n ≠ 0 := by
  have b1 := plainI_back h1
  have b2 := plainI_back h2
  have c1 := signed_ne h1
  have c2 := signed_ne h2
  constructor
  · intro e0
    rw [← e0] at b2
    generalize signed [a, b, c] = u at *
    generalize signed [d, e, f] = v at *
    obtain ⟨x, y, z, ex⟩ := three_of (plainI_len [a, b, c])
    rw [ex] at b1 b2
    simp only [List.map_cons, List.map_nil, List.cons.injEq, and_true] at b1 b2
    obtain ⟨rfl, rfl, rfl⟩ := b1
    obtain ⟨rfl, rfl, rfl⟩ := b2
    rintro ⟨n, hn, h0⟩
    apply h0
    simp only [crossI, List.mem_cons, List.not_mem_nil, or_false] at hn
    rcases hn with rfl | rfl | rfl
    · rw [show u * y * (v * z) = u * z * (v * y) by ac_rfl, Int.sub_self]
    · rw [show u * z * (v * x) = u * x * (v * z) by ac_rfl, Int.sub_self]
    · rw [show u * x * (v * y) = u * y * (v * x) by ac_rfl, Int.sub_self]
  · intro no
    have z : ∀ n ∈ crossI a b c d e f, n = 0 := fun n hn => Classical.byContradiction fun q => no ⟨n, hn, q⟩
    have z1 : b * f - c * e = 0 := z _ (by simp [crossI])
    have z2 : c * d - a * f = 0 := z _ (by simp [crossI])
    have z3 : a * e - b * d = 0 := z _ (by simp [crossI])
    -- one number of the second three is not 0: by it the first one is a multiple
    have key : ∃ s t : Int, s ≠ 0 ∧ t ≠ 0 ∧ [a, b, c].map (fun n => s * n) = [d, e, f].map (fun n => t * n) := by
      obtain ⟨n, hn, h0⟩ := h2
      obtain ⟨m, hm, g0⟩ := h1
      simp only [List.mem_cons, List.not_mem_nil, or_false] at hn hm
      have k1 : b * f = c * e := by omega
      have k2 : c * d = a * f := by omega
      have k3 : a * e = b * d := by omega
      have nz2 : ∀ {x y u v : Int}, x * y = u * v → x ≠ 0 → y ≠ 0 → u ≠ 0 := fun h hx hy hu => by
        rw [hu, Int.zero_mul] at h
        rcases Int.mul_eq_zero.mp h with q | q
        · exact hx q
        · exact hy q
      rcases hn with rfl | rfl | rfl
      · -- d is not 0: a is not 0
        have a0 : a ≠ 0 := by
          rcases hm with rfl | rfl | rfl
          · exact g0
          · intro q
            rw [q, Int.zero_mul] at k3
            rcases Int.mul_eq_zero.mp k3.symm with r | r
            · exact g0 r
            · exact h0 r
          · intro q
            rw [q, Int.zero_mul] at k2
            rcases Int.mul_eq_zero.mp k2 with r | r
            · exact g0 r
            · exact h0 r
        refine ⟨n, a, h0, a0, ?_⟩
        simp only [List.map_cons, List.map_nil]
        rw [Int.mul_comm n a, Int.mul_comm n b, ← k3, Int.mul_comm n c, k2]
      · have b0 : b ≠ 0 := by
          rcases hm with rfl | rfl | rfl
          · intro q
            rw [q, Int.zero_mul] at k3
            rcases Int.mul_eq_zero.mp k3 with r | r
            · exact g0 r
            · exact h0 r
          · exact g0
          · intro q
            rw [q, Int.zero_mul] at k1
            rcases Int.mul_eq_zero.mp k1.symm with r | r
            · exact g0 r
            · exact h0 r
        refine ⟨n, b, h0, b0, ?_⟩
        simp only [List.map_cons, List.map_nil]
        rw [Int.mul_comm n a, k3, Int.mul_comm n b, Int.mul_comm n c, k1]
      · have c0 : c ≠ 0 := by
          rcases hm with rfl | rfl | rfl
          · intro q
            rw [q, Int.zero_mul] at k2
            rcases Int.mul_eq_zero.mp k2.symm with r | r
            · exact g0 r
            · exact h0 r
          · intro q
            rw [q, Int.zero_mul] at k1
            rcases Int.mul_eq_zero.mp k1 with r | r
            · exact g0 r
            · exact h0 r
          · exact g0
        refine ⟨n, c, h0, c0, ?_⟩
        simp only [List.map_cons, List.map_nil]
        rw [Int.mul_comm n a, ← k2, Int.mul_comm n b, k1, Int.mul_comm n c]
    obtain ⟨s, t, hs, ht, e0⟩ := key
    rw [← plainI_scale hs h1, e0, plainI_scale ht h2]
end G0

namespace G0
open PySem PySem.Spec PyProof.Rows L2
abbrev s_one : Stmt := top 29
abbrev s_two : Stmt := top 30
abbrev s_right : Stmt := top 31
abbrev s_law : Stmt := top 32
theorem sm_of {ns : List Int} (h : ∀ n ∈ ns, n.natAbs < 2 ^ 30) : Sm ns := fun n hn => Nat.lt_trans (h n hn) (by decide +kernel)
theorem ne_same {s : Str} : (!decide (V.str s = V.str s)) = false := by simp
section
variable {P : Program} {w : World} {K : PySem.W.Frag} {mg : Str → Option Value} {base : Heap}
/-- told_point's promise, of one point as it may be passed -/
def sp_told2 (K : PySem.W.Frag) : Sp := fun vs H Q _ => ∃ (v : V) (t : List Int), vs = [v] ∧ Pt K H v t ∧ ∀ H' q, Same H H' → H q = none → H' q = some (.tup ((plainI t).map V.int)) → Q (.ref q) H'
theorem told2_of {f : Addr} {fd : FuncData} (G : FnOk P w K mg base CX0 4 f fd ["point"] (sp_told_point K)) : FnOk P w K mg base CX0 4 f fd ["point"] (sp_told2 K) := G.imp fun vs H Q E h => by
  obtain ⟨v, t, rfl, ⟨⟨p, a, b, c, rfl, rfl, h1⟩, h2, h3⟩, k⟩ := h
  exact ⟨p, a, b, c, rfl, h1, h2, h3, k⟩
/-- all defs that the helpers call, with their promises -/
structure Defs (P : Program) (w : World) (K : PySem.W.Frag) (mg : Str → Option Value) (base : Heap) (C fI fPts fPl fTP fIP fDraw fPick fPoint fGiven fGreat fTold fCross : Addr) (dI dPts dPl dTP dIP dDraw dPick dPoint dGiven dGreat dTold dCross : FuncData) : Prop where
  B : Blt mg
  S : SpTxt K mg C
  M : Mk K C fI
  bI : Binds K dI ["self", "points"] []
  GI : FnOk P w K mg base CX0 5 fI dI ["self", "points"] (sp_init K C)
  mPts : Meth K C "points" fPts
  bPts : Binds K dPts ["self"] []
  GPts : FnOk P w K mg base CX0 1 fPts dPts ["self"] (sp_points K C)
  mPl : Meth K C "place" fPl
  bPl : Binds K dPl ["self", "point"] []
  kPl : KB dPl ["self", "point"] ["point"] 1
  GPl : FnOk P w K mg base CX0 5 fPl dPl ["self", "point"] (sp_place K C)
  TP : Df K mg "told_point" s_told_point ["point"] fTP dTP
  kTP : KB dTP ["point"] ["point"] 0
  GTP : FnOk P w K mg base CX0 4 fTP dTP ["point"] (sp_told2 K)
  IP : Df K mg "is_point" s_is_point ["value"] fIP dIP
  kIP : KB dIP ["value"] ["value"] 0
  GIP : FnOk P w K mg base CX0 3 fIP dIP ["value"] (sp_is_point K)
  Draw : Df K mg "_law_draw" s_draw ["_law_pot_here", "_law_many"] fDraw dDraw
  GDraw : FnOk P w K mg base CX0 1 fDraw dDraw ["_law_pot_here", "_law_many"] sp_draw
  Pick : Df K mg "_law_pick" s_pick ["_law_pot_here", "_law_some"] fPick dPick
  GPick : FnOk P w K mg base CX0 2 fPick dPick ["_law_pot_here", "_law_some"] (sp_pick K)
  Point : Df K mg "_law_point" s_point ["_law_pot_here", "_law_most"] fPoint dPoint
  GPoint : FnOk P w K mg base CX0 2 fPoint dPoint ["_law_pot_here", "_law_most"] sp_point
  Given : Df K mg "_law_given" s_given ["_law_pot_here", "_law_point_here"] fGiven dGiven
  GGiven : FnOk P w K mg base CX0 2 fGiven dGiven ["_law_pot_here", "_law_point_here"] (sp_given K)
  Great : Df K mg "_law_great" s_great ["_law_pot_here"] fGreat dGreat
  GGreat : FnOk P w K mg base CX0 3 fGreat dGreat ["_law_pot_here"] sp_great
  Told : Df K mg "_law_told" s_told ["_law_point_here"] fTold dTold
  GTold : FnOk P w K mg base CX0 2 fTold dTold ["_law_point_here"] (sp_told K)
  Cross : Df K mg "_law_cross" s_cross ["_law_one", "_law_other"] fCross dCross
  GCross : FnOk P w K mg base CX0 1 fCross dCross ["_law_one", "_law_other"] (sp_cross K)
theorem sq_dp {D : Hp} {g : Addr} {ns : List Int} (h : Sq K D g (ns.map V.int)) (s : Sm ns) (l : ns.length ≤ 5000) : ∃ d, Dp K D (.ref g) d ∧ Fine d := by
  rcases h with h | h
  · exact ⟨_, dp_lst h, fine_lst s l⟩
  · exact ⟨_, dp_tup h, fine_tup s l⟩
theorem pt_of {H : Hp} {p : Addr} {a b c : Int} (h : Sq K H p ([a, b, c].map V.int)) (nz : ∃ n ∈ [a, b, c], n ≠ 0) (sm : ∀ n ∈ [a, b, c], n.natAbs < 2 ^ 30) : Pt K H (.ref p) [a, b, c] := ⟨⟨p, a, b, c, rfl, rfl, h⟩, nz, sm⟩
theorem pt_any {H : Hp} {p : Addr} {ns : List Int} (h : Sq K H p (ns.map V.int)) (l : ns.length = 3) (nz : ∃ n ∈ ns, n ≠ 0) (sm : ∀ n ∈ ns, n.natAbs < 2 ^ 30) : Pt K H (.ref p) ns := by
  obtain ⟨a, b, c, rfl⟩ := three_of l
  exact pt_of h nz sm
theorem fine_tups : ∀ {ts : List (List Int)}, (∀ t ∈ ts, Sm t ∧ t.length ≤ 8) → FineAll (ts.map dTup) 1 (15470 * ts.length)
  | [], _ => .nil
  | t :: ts, h => by
    have ih := fine_tups (ts := ts) fun u hu => h u (List.mem_cons_of_mem _ hu)
    obtain ⟨h1, h2⟩ := h t List.mem_cons_self
    have f := fine_ints h1
    have e := FineAll.cons (d := dTup t) (dep := 1) (s1 := 1932 * t.length + 3) (by simp only [PyData.showable]; exact f.sh) (by simp only [PyData.hasDict]; exact f.nd) (by have := f.dep; simp only [PyData.depth]; omega) (by have := f.sz; simp only [szD]; omega) ih
    refine ⟨e.sh, e.nd, e.dep, Nat.le_trans e.sz ?_⟩
    rw [List.length_cons]
    omega
theorem fine_ltups {ts : List (List Int)} (h : ∀ t ∈ ts, Sm t ∧ t.length ≤ 8) (l : ts.length ≤ 100) : Fine (.list (ts.map dTup)) := .lst (fine_tups h) (by decide) (by omega)
theorem Wd.less {p : Addr} {D D' H : Hp} (w : Wd p D' H) (s : Same D D') (n : D p = none) : Wd p D H := ⟨s.trans w.s, n, w.pot⟩
def sp_one : Sp := fun vs H Q _ => ∃ (p : Addr) (v : V) (D : Hp), vs = [.ref p, v] ∧ Wd p D H ∧ Trip 999999 v D ∧ ∀ H', Wd p D H' → Q (.bl true) H'
theorem sc_one : FnScope ["_law_pot_here", "_law_point_here", "_law_given_here", "_law_due", "_law_shown", "_law_told_here", "_law_times", "_law_small", "_law_spots", "_law_number"] ["_law_pot_here", "_law_point_here"] (defScope s_one) := ⟨rfl, rfl, rfl, by decide +kernel, rfl, by decide +kernel, by decide +kernel⟩
variable {C fI fPts fPl fTP fIP fDraw fPick fPoint fGiven fGreat fTold fCross : Addr} {dI dPts dPl dTP dIP dDraw dPick dPoint dGiven dGreat dTold dCross : FuncData}
theorem ok_one {f : Addr} {fd : FuncData} (F : Fun K "_law_one_right" "_law_one_right" s_one f fd) (T : Defs P w K mg base C fI fPts fPl fTP fIP fDraw fPick fPoint fGiven fGreat fTold fCross dI dPts dPl dTP dIP dDraw dPick dPoint dGiven dGreat dTold dCross) : FnG P w K mg base 7 f fd ["_law_pot_here", "_law_point_here"] sp_one := by
  refine F.okG sc_one (fun vs H Q E h => ?_) (fun cdv A outer s H vs Q E gd hr h => ?_)
  · obtain ⟨p, v, D, rfl, _⟩ := h
    rfl
  · obtain ⟨p, v, D, rfl, wd, ⟨l, a, b, c, rfl, hl, nz, bd⟩, q⟩ := h
    have B := T.B
    have r1 : Room 1 _ := hr.mono (by decide)
    have r2 : Room 2 _ := hr.mono (by decide)
    have r3 : Room 3 _ := hr.mono (by decide)
    have r4 : Room 4 _ := hr.mono (by decide)
    have r5 : Room 5 _ := hr.mono (by decide)
    have hu := hr.units
    refine ⟨_, pss_cons (ps_set (i := 2) sc_one.nd rfl (Or.inl rfl) (pdf T.Given T.GGiven r2 (pa_cons (pv 0) (pa_cons (pv 1) pa_nil))))
      (pss_cons (ps_par (i := 3) (j := 4) rfl sc_one.nd rfl rfl (by decide) rfl rfl (pa_cons (pdf T.Told T.GTold r2 (pa_cons (pv 1) pa_nil)) (pa_cons (pe_callB (call_repr gd hu) (by rfl) B.repr boot_repr (pa_cons (pv 2) pa_nil)) pa_nil)) (by rfl))
      (pss_cons (ps_for PassesOwn.never rfl (pi_list (pe_lst (pa_cons (pdf T.TP T.GTP r4 (pa_cons (pv 2) pa_nil)) (pa_cons (pe_callN (E := E0) T.GTP r4 (by rfl) T.TP.g T.TP.F.kp T.kTP (pk_cons (pv 2) pk_nil)) (pa_cons (pdf T.TP T.GTP r4 (pa_cons (pv 3) pa_nil)) (pa_cons (pdf T.TP T.GTP r4 (pa_cons (pe_callTy call_list_of (by rfl) B.list boot_tlist (pa_cons (pv 3) pa_nil)) pa_nil)) pa_nil)))))) (pg_name (i := 5) sc_one.nd rfl (Or.inl rfl))
          (pss_one (ps_if (pt_cmpR op_ne (pe_callB (call_repr gd hu) (by rfl) B.repr boot_repr (pa_cons (pv 5) pa_nil)) (pe_callB (call_repr gd hu) (by rfl) B.repr boot_repr (pa_cons (pv 3) pa_nil)) (nomark _)) (pss_one ps_never) pss_nil)))
      (pss_cons (ps_set (i := 6) sc_one.nd rfl (Or.inr rfl) (pdf T.Pick T.GPick r2 (pa_cons (pv 0) (pa_cons (pe_lst (pa_cons pe_int (pa_cons (pe_un un_neg pe_int) (pa_cons (pe_un un_neg pe_int) (pa_cons pe_int pa_nil))))) pa_nil))))
      (pss_cons (ps_set (i := 7) sc_one.nd rfl (Or.inl rfl) (pdf T.Point T.GPoint r2 (pa_cons (pv 0) (pa_cons pe_int pa_nil))))
      (pss_cons (ps_if (PW.pt (pw_or (pt_cmpR op_ne (pe_callB (call_repr gd hu) (by rfl) B.repr boot_repr (pa_cons (pdf T.TP T.GTP r4 (pa_cons (pe_lc (own := [("_law_number", 9)]) (g := gName 9) (tt := tYes) rfl sc_one.nd (pi_list (pv 7)) (blkOk_by (N := ["_law_pot_here", "_law_point_here", "_law_given_here", "_law_due", "_law_shown", "_law_told_here", "_law_times", "_law_small", "_law_spots", "_law_number"]) (sc := defScope s_one) (by decide +kernel)) (fun _ _ _ _ _ => pg_name (i := 9) sc_one.nd rfl (Or.inl rfl))
              (fun _ _ _ _ _ => pts_nil) (fun _ _ _ _ _ => pe_op op_mul (pv 6) (pv 9))) pa_nil)) pa_nil)) (pe_callB (call_repr gd hu) (by rfl) B.repr boot_repr (pa_cons (pdf T.TP T.GTP r4 (pa_cons (pv 7) pa_nil)) pa_nil)) (nomark _))
          (pw_or1 (pt_cmpR op_ne (pe_callB (call_repr gd hu) (by rfl) B.repr boot_repr (pa_cons (pdf T.TP T.GTP r4 (pa_cons (pv 7) pa_nil)) pa_nil)) (pe_callB (call_repr gd hu) (by rfl) B.repr boot_repr (pa_cons (pdf T.Told T.GTold r2 (pa_cons (pv 7) pa_nil)) pa_nil)) (nomark _))))) (pss_one ps_never) pss_nil)
      (pss_cons (ps_set (i := 8) sc_one.nd rfl (Or.inl rfl) (pe_make T.M T.GI hr (by rfl) T.S.mgC T.bI .nil pass0 (pa_cons (pe_lst (pa_cons (pv 2) pa_nil)) pa_nil)))
      (pss_cons (ps_if (PW.pt (pw_or (pt_cmpR op_ne (pe_callB (call_repr gd hu) (by rfl) B.repr boot_repr (pa_cons (pe_meth0 (pv 8) T.S.cl T.mPts T.GPts r1 T.bPts .nil pass0) pa_nil)) (pe_callB (call_repr gd hu) (by rfl) B.repr boot_repr (pa_cons (pe_lst (pa_cons (pv 3) pa_nil)) pa_nil)) (nomark _))
          (pw_or (pt_cmpR op_ne (pe_meth (pv 8) T.S.cl T.mPl T.GPl r5 T.bPl .nil pass0 (pa_cons (pv 3) pa_nil)) pe_int (nomark _))
          (pw_or1 (pt_cmpR op_ne (pe_methN (E := E0) (pv 8) T.S.cl T.mPl T.GPl r5 T.kPl (pk_cons (pe_lc (own := [("_law_number", 9)]) (g := gName 9) (tt := tYes) rfl sc_one.nd (pi_list (pv 1)) (blkOk_by (N := ["_law_pot_here", "_law_point_here", "_law_given_here", "_law_due", "_law_shown", "_law_told_here", "_law_times", "_law_small", "_law_spots", "_law_number"]) (sc := defScope s_one) (by decide +kernel)) (fun _ _ _ _ _ => pg_name (i := 9) sc_one.nd rfl (Or.inl rfl))
              (fun _ _ _ _ _ => pts_nil) (fun _ _ _ _ _ => pe_op op_sub pe_int (pv 9))) pk_nil)) pe_int (nomark _)))))) (pss_one ps_never) pss_nil)
      (pss_one (ps_ret (pe_and (pe_cmpR op_isBl (pdf T.IP T.GIP r3 (pa_cons (pv 2) pa_nil)) pe_bl (nomark _)) (pe_and (pe_cmpR op_isBl (pe_callN (E := E0) T.GIP r3 (by rfl) T.IP.g T.IP.F.kp T.kIP (pk_cons (pv 3) pk_nil)) pe_bl (nomark _))
          (pe_one (pe_cmpR op_eq (pe_callB (call_repr gd hu) (by rfl) B.repr boot_repr (pa_cons (pv 2) pa_nil)) (pv 4) (nomark _)))))))))))))), ?_⟩
    have sm : ∀ n ∈ [a, b, c], n.natAbs < 2 ^ 30 := fun n hn => by
      have := bd n hn
      have e30 : (2 : Nat) ^ 30 = 1073741824 := rfl
      omega
    have el : (plainI [a, b, c]).length = 3 := plainI_len _
    have enz := plainI_nz nz
    have esm := plainI_le nz sm
    have eto := plainI_told nz
    have fe : Fine (dTup (plainI [a, b, c])) := fine_tup (sm_of esm) (by omega)
    -- given
    refine ⟨_, rfl, _, rfl, p, l, D, _, rfl, wd, SqL.mk hl, ?_⟩
    rintro _ D1 H1 s1 w1 ⟨g, rfl, hg, g0⟩
    obtain ⟨dg, dpg, fg⟩ := sq_dp hg (sm_of sm) (by show 3 ≤ 5000; decide)
    -- due, shown
    have hl1 : D1 l = some (.lst ([a, b, c].map V.int)) := s1 _ _ hl
    refine ⟨_, rfl, l, [a, b, c], rfl, SqL.mk (w1.s _ _ hl1), nz, sm, by show 3 ≤ 1000; decide, fun H2 u s2 nu hu2 => ?_⟩
    refine ⟨_, rfl, _, _, rfl, Dp.same (w1.s.trans s2) dpg, fg, ?_⟩
    refine ⟨_, _, rfl, ?_⟩
    obtain ⟨w2, s12, hu⟩ := w1.new s2 nu hu2
    -- the four told ones
    have g2 : Sq K H2 g ([a, b, c].map V.int) := hg.same (w1.s.trans s2)
    have u2 : SqT K H2 u ((plainI [a, b, c]).map V.int) := SqT.mk hu2
    refine ⟨_, rfl, _, _, rfl, pt_of g2 nz sm, fun H3 q1 s3 n3 h3 => ?_⟩
    refine ⟨_, rfl, rfl, _, _, rfl, pt_of (g2.same s3) nz sm, fun H4 q2 s4 n4 h4 => ?_⟩
    have s24 := s3.trans s4
    refine ⟨_, rfl, _, _, rfl, pt_any (.inr (same_t s24 u2)) el enz esm, fun H5 q3 s5 n5 h5 => ?_⟩
    rw [eto] at h5
    have s25 := s24.trans s5
    refine ⟨_, rfl, u, _, rfl, .inr (same_t s25 u2), fun l6 hl6 => ?_⟩
    have s26 := s25.trans (same_new (o := .lst ((plainI [a, b, c]).map V.int)) hl6)
    refine ⟨_, _, rfl, pt_any (.inl (SqL.mk upd_same)) el enz esm, fun H7 q4 s7 n7 h7 => ?_⟩
    rw [eto] at h7
    have s27 := s26.trans s7
    refine ⟨by show 4 ≤ sizeLine; decide, fun L hL => ?_⟩
    have t3 := ((s4.trans s5).trans ((same_new (o := .lst ((plainI [a, b, c]).map V.int)) hl6).trans s7))
    have t4 := (s5.trans ((same_new (o := .lst ((plainI [a, b, c]).map V.int)) hl6).trans s7))
    have t5 := ((same_new (o := .lst ((plainI [a, b, c]).map V.int)) hl6).trans s7)
    have sL := same_new (o := .lst [.ref q1, .ref q2, .ref q3, .ref q4]) hL
    have items : ∀ x ∈ [V.ref q1, V.ref q2, V.ref q3, V.ref q4], ∃ q, x = .ref q ∧ SqT K (upd H7 L (.lst [.ref q1, .ref q2, .ref q3, .ref q4])) q ((plainI [a, b, c]).map V.int) := by
      intro x hx
      simp only [List.mem_cons, List.not_mem_nil, or_false] at hx
      rcases hx with rfl | rfl | rfl | rfl
      · exact ⟨_, rfl, SqT.mk (sL _ _ (t3 _ _ h3))⟩
      · exact ⟨_, rfl, SqT.mk (sL _ _ (t4 _ _ h4))⟩
      · exact ⟨_, rfl, SqT.mk (sL _ _ (t5 _ _ h5))⟩
      · exact ⟨_, rfl, SqT.mk (sL _ _ h7)⟩
    have s28 := s27.trans sL
    refine ⟨L, rfl, ⟨_, SqL.mk upd_same⟩, for_list (K := K) (a := L) (xs := [.ref q1, .ref q2, .ref q3, .ref q4]) (fun i σ H' => ∃ y, σ = [some (.ref p), some (.ref l), some (.ref g), some (.ref u), some (.str dg.shown), y, none, none, none, none] ∧ H' = upd H7 L (.lst [.ref q1, .ref q2, .ref q3, .ref q4])) ⟨none, rfl, rfl⟩ ?_ ?_ ?_⟩
    · rintro i σ H' _ ⟨y, rfl, rfl⟩
      exact SqL.mk upd_same
    · rintro i x σ H' hx ⟨y, rfl, rfl⟩
      obtain ⟨qi, rfl, hqi⟩ := items x (List.mem_of_getElem? hx)
      refine ⟨_, rfl, _, _, rfl, dp_tup hqi, fe, ?_⟩
      refine ⟨_, rfl, _, _, rfl, dp_tup (same_t s28 u2), fe, ?_⟩
      refine ⟨rfl, _, rfl, ?_⟩
      rw [ne_same]
      exact iteF ⟨_, rfl, rfl⟩
    · rintro σ H' ⟨y, rfl, rfl⟩
      revert s28
      generalize upd H7 L (.lst [.ref q1, .ref q2, .ref q3, .ref q4]) = H8
      intro s28
      -- times
      have w8 := w2.pure s28
      refine ⟨_, rfl, _, rfl, _, rfl, by show 4 ≤ sizeLine; decide, fun tl htl => ?_⟩
      obtain ⟨w9, s9, htl9⟩ := w8.new (same_new (o := .lst [.int 2, .int (-1), .int (-3), .int 999]) htl) htl upd_same
      refine ⟨p, tl, _, _, rfl, w9, SqL.mk htl9, by show 1 ≤ 4; decide, by show 4 < 1000000; decide, fun H10 v w10 hv => ?_⟩
      obtain ⟨t, rfl, t0, tb⟩ : ∃ t : Int, v = .int t ∧ t ≠ 0 ∧ t.natAbs ≤ 999 := by
        simp only [List.mem_cons, List.not_mem_nil, or_false] at hv
        rcases hv with rfl | rfl | rfl | rfl <;> exact ⟨_, rfl, by decide, by decide⟩
      -- small
      refine ⟨_, rfl, p, 9, _, rfl, w10, by decide, by decide, ?_⟩
      rintro _ D11 H11 s11 w11 ⟨sl, x, y2, z, rfl, hsl, snz, sbd⟩
      have ssm : ∀ n ∈ [x, y2, z], n.natAbs < 2 ^ 30 := fun n hn => by
        have := sbd n hn
        have e30 : (2 : Nat) ^ 30 = 1073741824 := rfl
        omega
      have d29 : Same D1 D11 := s12.trans (s9.trans s11)
      have du : D11 u = some (.tup ((plainI [a, b, c]).map V.int)) := s11 _ _ (s9 _ _ hu)
      have ksl : SqL K H11 sl ([x, y2, z].map V.int) := SqL.mk (w11.s _ _ hsl)
      have fsm : Fine (dTup (plainI [x, y2, z])) := fine_tup (sm_of (plainI_le snz ssm)) (by rw [plainI_len]; show 3 ≤ 5000; decide)
      -- told_point([times * n for n in small]), told_point(small)
      let FT : V → Option V := fun x => match x with | .int n => some (.int (t * n)) | _ => none
      refine ⟨_, rfl, sl, rfl, ⟨_, ksl⟩, fun L2 hL2 => lcL FT ksl (by show 3 < sizeLine; decide) hL2 (fun x hx H1 _ G N _ g2 => ?_) fun H12 s12 h12 => ?_⟩
      · obtain ⟨n, hn, rfl⟩ := mem_int hx
        refine ⟨rfl, yes_ite ?_⟩
        exact ⟨_, rfl, _, rfl, _, _, rfl, rfl, .inl ⟨by omega, by omega⟩, g2 _ rfl _ (Same.refl _)⟩
      have e12 : fm FT ([x, y2, z].map V.int) = ([x, y2, z].map fun n => t * n).map V.int := rfl
      rw [e12] at h12
      have tnz : ∃ n ∈ [x, y2, z].map (fun n => t * n), n ≠ 0 := by
        obtain ⟨n, hn, h0⟩ := snz
        exact ⟨_, List.mem_map.mpr ⟨n, hn, rfl⟩, Int.mul_ne_zero t0 h0⟩
      have tsm : ∀ n ∈ [x, y2, z].map (fun n => t * n), n.natAbs < 2 ^ 30 := by
        intro m hm
        obtain ⟨n, hn, rfl⟩ := List.mem_map.mp hm
        have := sbd n hn
        rw [Int.natAbs_mul]
        have := Nat.mul_le_mul tb (show n.natAbs ≤ 9 by omega)
        have e30 : (2 : Nat) ^ 30 = 1073741824 := rfl
        omega
      refine ⟨_, _, rfl, pt_any (.inl (SqL.mk h12)) rfl tnz tsm, fun H13 q13 s13 n13 h13 => ?_⟩
      rw [plainI_scale t0 snz] at h13
      refine ⟨_, _, rfl, dp_tup (SqT.mk h13), fsm, ?_⟩
      have s1113 := s12.trans s13
      refine ⟨_, rfl, _, _, rfl, pt_of (.inl (s1113.seq ksl)) snz ssm, fun H14 q14 s14 n14 h14 => ?_⟩
      refine ⟨_, _, rfl, dp_tup (SqT.mk h14), fsm, rfl, _, rfl, ?_⟩
      rw [ne_same]
      have s1114 := s1113.trans s14
      refine iteF ?_
      -- told_point(small), _law_told(small)
      refine ⟨_, rfl, _, _, rfl, pt_of (.inl (s1114.seq ksl)) snz ssm, fun H15 q15 s15 n15 h15 => ?_⟩
      refine ⟨_, _, rfl, dp_tup (SqT.mk h15), fsm, ?_⟩
      have s1115 := s1114.trans s15
      refine ⟨_, rfl, sl, _, rfl, s1115.seq ksl, snz, ssm, by show 3 ≤ 1000; decide, fun H16 q16 s16 n16 h16 => ?_⟩
      refine ⟨_, _, rfl, dp_tup (SqT.mk h16), fsm, rfl, _, rfl, ?_⟩
      rw [ne_same]
      have s1116 := s1115.trans s16
      have w16 := w11.pure s1116
      refine iteF ?_
      -- spots = Spots([given])
      refine ⟨_, rfl, by show 1 ≤ sizeLine; decide, fun L3 hL3 X dx nX ndx nXd => ?_⟩
      have s17 := same_new (o := .lst [.ref g]) hL3
      have w17 := w16.pure s17
      have k17 : SqL K (upd H16 L3 (.lst [.ref g])) L3 [.ref g] := SqL.mk upd_same
      revert s17 w17 k17 nX ndx
      generalize upd H16 L3 (.lst [.ref g]) = H17
      intro nX ndx s17 w17 k17
      have s18 : Same H17 (upd (upd H17 dx (.own X)) X (.ins C dx [])) := fun b o e => by
        rw [upd_ne (ne_of_none e nX), upd_ne (ne_of_none e ndx)]
        exact e
      have gAt : ∀ {H' : Hp}, Same D11 H' → Sq K H' g ([a, b, c].map V.int) := fun e => hg.same (d29.trans e)
      have uAt : ∀ {H' : Hp}, Same D11 H' → SqT K H' u ((plainI [a, b, c]).map V.int) := fun e => SqT.mk (e _ _ du)
      have lAt : ∀ {H' : Hp}, Same D11 H' → SqL K H' l ([a, b, c].map V.int) := fun e => SqL.mk (e _ _ (d29 _ _ hl1))
      refine ⟨H17, X, dx, L3, [.ref g], [[a, b, c]], rfl, s18, nX, upd_same, k17, rfl, ?_, by show 1 ≤ 1; decide, by show 1 ≤ 24; decide, by simp, fun H19 s19 sp19 => ⟨rfl, ?_⟩⟩
      · intro i v t hv ht
        match i, hv, ht with
        | 0, hv, ht =>
          cases hv
          cases ht
          exact pt_of (gAt w17.s) nz sm
      have w19 := w17.pure s19
      -- repr(spots.points()), repr([due])
      obtain ⟨dx9, l9, vs9, hX9, hl9, hd9⟩ := id sp19
      refine ⟨_, rfl, X, dx9, _, rfl, hX9, rfl, X, _, rfl, sp19, fun H20 l20 s20 n20 t20 => ?_⟩
      have fts : Fine (.list ([plainI [a, b, c]].map dTup)) := fine_ltups (fun t ht => by rw [List.mem_singleton.mp ht]; exact ⟨sm_of esm, by omega⟩) (by show 1 ≤ 100; decide)
      refine ⟨_, _, rfl, t20.dp, fts, ?_⟩
      have w20 := w19.pure s20
      refine ⟨_, rfl, by show 1 ≤ sizeLine; decide, fun l21 hl21 => ?_⟩
      have s21 := same_new (o := .lst [.ref u]) hl21
      refine ⟨_, _, rfl, .lst (SqL.mk upd_same) (.cons (dp_tup (uAt (w20.s.trans s21))) .nil), fts, rfl, _, rfl, ?_⟩
      show if (!decide (V.str (PyData.shown (.list ([plainI [a, b, c]].map dTup))) = V.str (PyData.shown (.list ([plainI [a, b, c]].map dTup))))) = true then _ else _
      rw [ne_same]
      have w21 := w20.pure s21
      have s1921 := s20.trans s21
      revert w21 s1921
      generalize upd H20 l21 (.lst [.ref u]) = H21
      intro w21 s1921
      refine iteF ?_
      -- spots.place(due)
      have sp21 := sp19.same s1921
      have hX21 := s1921 _ _ hX9
      have ez : (!decide (placeV (some 0) = V.int 0)) = false := by decide
      refine ⟨_, rfl, X, dx9, _, rfl, hX21, rfl, _, rfl, X, _, _, _, some 0, rfl, sp21, pt_any (.inr (uAt w21.s)) el enz esm, ?_, fun H22 s22 => ⟨rfl, _, rfl, ?_⟩⟩
      · rw [eto]
        exact ⟨rfl, fun m hm => absurd hm (Nat.not_lt_zero m)⟩
      rw [ez]
      have w22 := w21.pure s22
      have sp22 := sp21.same s22
      have hX22 := s22 _ _ hX21
      refine iteF ?_
      -- spots.place(point=[0 - n for n in point])
      let FZ : V → Option V := fun x => match x with | .int n => some (.int (0 - n)) | _ => none
      refine ⟨_, rfl, X, dx9, _, rfl, hX22, rfl, _, rfl, l, rfl, ⟨_, lAt w22.s⟩, fun L4 hL4 => lcL FZ (lAt w22.s) (by show 3 < sizeLine; decide) hL4 (fun x hx H1 _ G N _ g2 => ?_) fun H23 s23 h23 => ?_⟩
      · obtain ⟨n, hn, rfl⟩ := mem_int hx
        refine ⟨rfl, yes_ite ?_⟩
        exact ⟨_, rfl, _, _, rfl, rfl, g2 _ rfl _ (Same.refl _)⟩
      have e23 : fm FZ ([a, b, c].map V.int) = ([a, b, c].map fun n => 0 - n).map V.int := rfl
      rw [e23] at h23
      have w23 := w22.pure s23
      have sp23 := sp22.same s23
      have nnz : ∃ n ∈ [a, b, c].map (fun n => 0 - n), n ≠ 0 := by
        obtain ⟨n, hn, h0⟩ := nz
        exact ⟨_, List.mem_map.mpr ⟨n, hn, rfl⟩, by omega⟩
      have nsm : ∀ n ∈ [a, b, c].map (fun n => 0 - n), n.natAbs < 2 ^ 30 := by
        intro m hm
        obtain ⟨n, hn, rfl⟩ := List.mem_map.mp hm
        have := sm n hn
        omega
      refine ⟨rfl, X, _, _, _, some 0, rfl, sp23, pt_any (.inl (SqL.mk h23)) rfl nnz nsm, ?_, fun H24 s24 => ⟨rfl, _, rfl, ?_⟩⟩
      · rw [plainI_neg nz]
        exact ⟨rfl, fun m hm => absurd hm (Nat.not_lt_zero m)⟩
      rw [ez]
      have w24 := w23.pure s24
      refine iteF ?_
      -- is_point(given) is True and is_point(value=due) is True and repr(given) == shown
      refine ⟨_, rfl, g, a, b, c, rfl, gAt w24.s, fun H25 s25 => ?_⟩
      rw [any_of nz]
      refine ⟨true, true, rfl, rfl, true, rfl, iteT ?_⟩
      have w25 := w24.pure s25
      obtain ⟨x1, x2, x3, ex⟩ := three_of el
      rw [ex] at enz uAt
      refine ⟨_, rfl, rfl, u, x1, x2, x3, rfl, .inr (uAt w25.s), fun H26 s26 => ?_⟩
      rw [any_of enz]
      refine ⟨true, true, rfl, rfl, true, rfl, iteT ?_⟩
      have w26 := w25.pure s26
      refine ⟨_, rfl, _, _, rfl, Dp.same (d29.trans w26.s) dpg, fg, _, rfl, rfl, ?_⟩
      rw [decide_eq_true rfl]
      exact q _ (w26.less (s1.trans d29) wd.n)
end
end G0

namespace G0
open PySem PySem.Spec PyProof.Rows L2
section
variable {P : Program} {w : World} {K : PySem.W.Frag} {mg : Str → Option Value} {base : Heap}
variable {C fI fPts fPl fTP fIP fDraw fPick fPoint fGiven fGreat fTold fCross : Addr} {dI dPts dPl dTP dIP dDraw dPick dPoint dGiven dGreat dTold dCross : FuncData}
def sp_two : Sp := fun vs H Q _ => ∃ (p : Addr) (D : Hp), vs = [.ref p] ∧ Wd p D H ∧ ∀ H', Wd p D H' → Q (.bl true) H'
theorem sc_two : FnScope ["_law_pot_here", "_law_one", "_law_other", "_law_is_same"] ["_law_pot_here"] (defScope s_two) := ⟨rfl, rfl, rfl, by decide +kernel, rfl, by decide +kernel, by decide +kernel⟩
theorem ok_two {f : Addr} {fd : FuncData} (F : Fun K "_law_two_right" "_law_two_right" s_two f fd) (T : Defs P w K mg base C fI fPts fPl fTP fIP fDraw fPick fPoint fGiven fGreat fTold fCross dI dPts dPl dTP dIP dDraw dPick dPoint dGiven dGreat dTold dCross) : FnOk P w K mg base CX0 7 f fd ["_law_pot_here"] sp_two := by
  refine F.ok sc_two (fun vs H Q E h => ?_) (fun cdv A outer s H vs Q E hr h => ?_)
  · obtain ⟨p, D, rfl, _⟩ := h
    rfl
  · obtain ⟨p, D, rfl, wd, q⟩ := h
    have B := T.B
    have r1 : Room 1 _ := hr.mono (by decide)
    have r2 : Room 2 _ := hr.mono (by decide)
    have r4 : Room 4 _ := hr.mono (by decide)
    have r5 : Room 5 _ := hr.mono (by decide)
    have hu := hr.units
    refine ⟨_, pss_cons (ps_par (i := 1) (j := 2) rfl sc_two.nd rfl rfl (by decide) rfl rfl (pa_cons (pdf T.Point T.GPoint r2 (pa_cons (pv 0) (pa_cons pe_int pa_nil))) (pa_cons (pdf T.Point T.GPoint r2 (pa_cons (pv 0) (pa_cons pe_int pa_nil))) pa_nil)) (by rfl))
      (pss_cons (ps_set (i := 3) sc_two.nd rfl (Or.inl rfl) (pe_not (pe_callB (cr_anyI rfl) (by rfl) B.any boot_any (pa_cons (pdf T.Cross T.GCross r1 (pa_cons (pv 1) (pa_cons (pv 2) pa_nil))) pa_nil))))
      (pss_cons (ps_if (pt_cmpR op_ne (pe_cmpR (op_eqD hu) (pdf T.TP T.GTP r4 (pa_cons (pv 1) pa_nil)) (pdf T.TP T.GTP r4 (pa_cons (pv 2) pa_nil)) (nomark _)) (pv 3) (nomark _)) (pss_one ps_never) pss_nil)
      (pss_one (ps_ret (pe_cmpR op_eq (pe_meth (pe_make T.M T.GI hr (by rfl) T.S.mgC T.bI .nil pass0 (pa_cons (pe_lst (pa_cons (pv 1) pa_nil)) pa_nil)) T.S.cl T.mPl T.GPl r5 T.bPl .nil pass0 (pa_cons (pv 2) pa_nil)) (pe_ifExp (pt_val (pv 3)) pe_int pe_non) (nomark _)))))), ?_⟩
    refine ⟨_, rfl, p, 3, D, rfl, wd, by decide, by decide, ?_⟩
    rintro _ D1 H1 s1 w1 ⟨l1, a, b, c, rfl, h1, nz1, bd1⟩
    refine ⟨_, rfl, p, 3, D1, rfl, w1, by decide, by decide, ?_⟩
    rintro _ D2 H2 s2 w2 ⟨l2, d, e, f2, rfl, h2, nz2, bd2⟩
    have e30 : (2 : Nat) ^ 30 = 1073741824 := rfl
    have e60 : (2 : Nat) ^ 60 = 1152921504606846976 := rfl
    have sm1 : ∀ n ∈ [a, b, c], n.natAbs < 2 ^ 30 := fun n hn => by
      have := bd1 n hn
      omega
    have sm2 : ∀ n ∈ [d, e, f2], n.natAbs < 2 ^ 30 := fun n hn => by
      have := bd2 n hn
      omega
    refine ⟨_, _, rfl, ?_⟩
    have k1 : ∀ {H' : Hp}, Same D2 H' → Sq K H' l1 ([a, b, c].map V.int) := fun x => .inl (SqL.mk (x _ _ (s2 _ _ h1)))
    have k2 : ∀ {H' : Hp}, Same D2 H' → Sq K H' l2 ([d, e, f2].map V.int) := fun x => .inl (SqL.mk (x _ _ h2))
    -- is_same = not any(cross(one, other))
    refine ⟨_, rfl, _, rfl, l1, l2, a, b, c, d, e, f2, rfl, k1 w2.s, k2 w2.s, fun n hn => Nat.lt_trans (sm1 n hn) (by decide), fun H3 t s3 n3 h3 => ?_⟩
    refine ⟨t, _, rfl, .inr (SqT.mk h3), _, rfl, ?_⟩
    have w3 := w2.pure s3
    have esame : (!((crossI a b c d e f2).any fun n => n != 0)) = decide (plainI [a, b, c] = plainI [d, e, f2]) := by
      rw [Bool.eq_iff_iff, decide_eq_true_iff, cross_zero nz1 nz2, ← anyB]
      cases (crossI a b c d e f2).any fun n => n != 0 <;> simp
    rw [esame]
    -- (told_point(one) == told_point(other)) != is_same
    refine ⟨_, rfl, _, _, rfl, pt_any (k1 w3.s) rfl nz1 sm1, fun H4 q4 s4 n4 h4 => ?_⟩
    refine ⟨_, rfl, _, _, rfl, pt_any (k2 (w3.s.trans s4)) rfl nz2 sm2, fun H5 q5 s5 n5 h5 => ?_⟩
    have w5 := w3.pure (s4.trans s5)
    refine ⟨_, _, dp_tup (SqT.mk (s5 _ _ h4)), dp_tup (SqT.mk h5), shaped_tup _, shaped_tup _, ?_⟩
    rw [eqv_tup]
    refine ⟨_, rfl, rfl, _, rfl, ?_⟩
    have ebb : ∀ x : Bool, (!decide (V.bl x = V.bl x)) = false := fun x => by simp
    rw [ebb]
    refine iteF ?_
    -- Spots([one]).place(other) == (0 if is_same else None)
    refine ⟨_, rfl, by show 1 ≤ sizeLine; decide, fun L hL X dx nX ndx nXd => ?_⟩
    have s6 := same_new (o := .lst [.ref l1]) hL
    have w6 := w5.pure s6
    have k6 : SqL K (upd H5 L (.lst [.ref l1])) L [.ref l1] := SqL.mk upd_same
    revert s6 w6 k6 nX ndx
    generalize upd H5 L (.lst [.ref l1]) = H6
    intro nX ndx s6 w6 k6
    have s7 : Same H6 (upd (upd H6 dx (.own X)) X (.ins C dx [])) := fun b o e => by
      rw [upd_ne (ne_of_none e nX), upd_ne (ne_of_none e ndx)]
      exact e
    refine ⟨H6, X, dx, L, [.ref l1], [[a, b, c]], rfl, s7, nX, upd_same, k6, rfl, ?_, by show 1 ≤ 1; decide, by show 1 ≤ 24; decide, by simp, fun H8 s8 sp8 => ⟨rfl, ?_⟩⟩
    · intro i v t hv ht
      match i, hv, ht with
      | 0, hv, ht =>
        cases hv
        cases ht
        exact pt_any (k1 w6.s) rfl nz1 sm1
    have w8 := w6.pure s8
    obtain ⟨dx9, l9, vs9, hX9, hl9, hd9⟩ := id sp8
    by_cases eq : plainI [a, b, c] = plainI [d, e, f2]
    · refine ⟨X, dx9, _, rfl, hX9, rfl, _, rfl, X, _, _, _, some 0, rfl, sp8, pt_any (k2 w8.s) rfl nz2 sm2, ⟨by rw [← eq]; rfl, fun m hm => absurd hm (Nat.not_lt_zero m)⟩, fun H9 s9 => ?_⟩
      refine ⟨_, rfl, decide (plainI [a, b, c] = plainI [d, e, f2]), rfl, ?_⟩
      rw [decide_eq_true eq]
      exact iteT ⟨rfl, q _ ((w8.pure s9).less (s1.trans s2) wd.n)⟩
    · refine ⟨X, dx9, _, rfl, hX9, rfl, _, rfl, X, _, _, _, none, rfl, sp8, pt_any (k2 w8.s) rfl nz2 sm2, fun m => eq (List.mem_singleton.mp m).symm, fun H9 s9 => ?_⟩
      refine ⟨_, rfl, decide (plainI [a, b, c] = plainI [d, e, f2]), rfl, ?_⟩
      rw [decide_eq_false eq]
      exact iteF ⟨rfl, q _ ((w8.pure s9).less (s1.trans s2) wd.n)⟩

/-! _law_right -/
def sp_right : Sp := fun vs H Q _ => ∃ (p : Addr) (D : Hp), vs = [.ref p] ∧ Wd p D H ∧ ∀ H', Wd p D H' → Q (.bl true) H'
theorem Trip.mono {m n : Int} {v : V} {D : Hp} (h : Trip m v D) (l : m ≤ n) : Trip n v D := by
  obtain ⟨q, a, b, c, h1, h2, h3, h4⟩ := h
  exact ⟨q, a, b, c, h1, h2, h3, fun x hx => by have := h4 x hx; omega⟩
theorem sc_right : FnScope ["_law_pot_here", "_law_turn"] ["_law_pot_here"] (defScope s_right) := ⟨rfl, rfl, rfl, by decide +kernel, rfl, by decide +kernel, by decide +kernel⟩
theorem ok_right {f f1 f2 : Addr} {fd fd1 fd2 : FuncData} (F : Fun K "_law_right" "_law_right" s_right f fd) (T : Defs P w K mg base C fI fPts fPl fTP fIP fDraw fPick fPoint fGiven fGreat fTold fCross dI dPts dPl dTP dIP dDraw dPick dPoint dGiven dGreat dTold dCross)
    (D1 : Df K mg "_law_one_right" s_one ["_law_pot_here", "_law_point_here"] f1 fd1) (D2 : Df K mg "_law_two_right" s_two ["_law_pot_here"] f2 fd2) : FnG P w K mg base 8 f fd ["_law_pot_here"] sp_right := by
  have G1 : FnG P w K mg base 7 f1 fd1 ["_law_pot_here", "_law_point_here"] sp_one := ok_one D1.F T
  have G2 : FnOk P w K mg base CX0 7 f2 fd2 ["_law_pot_here"] sp_two := ok_two D2.F T
  refine F.okG sc_right (fun vs H Q E h => ?_) (fun cdv A outer s H vs Q E gd hr h => ?_)
  · obtain ⟨p, D, rfl, _⟩ := h
    rfl
  · obtain ⟨p, D, rfl, wd, q⟩ := h
    have r2 : Room 2 _ := hr.mono (by decide)
    have r3 : Room 3 _ := hr.mono (by decide)
    refine ⟨_, pss_cons (ps_for PassesOwn.never rfl (pi_range1 (by rfl) T.B.range (pa_cons pe_int pa_nil)) (pg_name (i := 1) sc_right.nd rfl (Or.inl rfl))
        (pss_one (ps_if (PW.pt (pw_or (pt_not (pt_val (pe_callG (E := E0) G1 gd hr (by rfl) D1.g D1.F.kp D1.b .nil (pa_cons (pv 0) (pa_cons (pdf T.Great T.GGreat r3 (pa_cons (pv 0) pa_nil)) pa_nil)))))
          (pw_or (pt_not (pt_val (pe_callG (E := E0) G1 gd hr (by rfl) D1.g D1.F.kp D1.b .nil (pa_cons (pv 0) (pa_cons (pdf T.Point T.GPoint r2 (pa_cons (pv 0) (pa_cons pe_int pa_nil))) pa_nil))))) (pw_or1 (pt_not (pt_val (pdf D2 G2 hr (pa_cons (pv 0) pa_nil)))))))) (pss_one ps_never) pss_nil)))
      (pss_one (ps_ret pe_bl)), ?_⟩
    refine ⟨3, rfl, by decide, by decide, for_range (n := 3) (fun i σ H' => ∃ y, σ = [some (.ref p), y] ∧ Wd p D H') ⟨none, rfl, wd⟩ ?_ ?_⟩
    · rintro i σ H1 hi ⟨y, rfl, w1⟩
      refine ⟨_, rfl, _, rfl, p, D, rfl, w1, ?_⟩
      rintro v1 D2 H2 s2 w2 t2
      refine ⟨p, v1, D2, rfl, w2, t2, fun H3 w3 => ⟨true, rfl, iteF ?_⟩⟩
      refine ⟨_, rfl, _, rfl, p, 6, D, rfl, w3.less s2 wd.n, by decide, by decide, ?_⟩
      rintro v4 D4 H4 s4 w4 t4
      refine ⟨p, v4, D4, rfl, w4, t4.mono (by decide), fun H5 w5 => ⟨true, rfl, iteF ?_⟩⟩
      refine ⟨_, rfl, p, D, rfl, w5.less s4 wd.n, fun H6 w6 => ⟨true, rfl, iteF ?_⟩⟩
      exact ⟨_, rfl, w6⟩
    · rintro σ H1 ⟨y, rfl, w1⟩
      exact q _ w1

theorem _root_.L2.Same.lst {H H' : Hp} {L : Addr} {o : HO} (e : Same H H') (h : H L = none) : Same H (upd H' L o) := fun b u eb => by
  rw [upd_ne (ne_of_none eb h)]
  exact e _ _ eb
/-! law -/
def sp_law (K : PySem.W.Frag) : Sp := fun vs H Q _ => ∃ (l : Addr) (ns : List Int), vs = [.ref l] ∧ SqL K H l (ns.map V.int) ∧ ns.length ≤ 63 ∧ ∀ H', Q (.bl true) H'
theorem sc_law : FnScope ["_law_script", "_law_k"] ["_law_script"] (defScope s_law) := ⟨rfl, rfl, rfl, by decide +kernel, rfl, by decide +kernel, by decide +kernel⟩
theorem boot_min : bootBuiltins "min" = some (.builtin "min") := by decide +kernel
theorem ok_law {f f1 f2 : Addr} {fd fd1 fd2 : FuncData} (F : Fun K "law" "law" s_law f fd) (B : Blt mg) (D1 : Df K mg "_law_pot" s_pot ["_law_script", "_law_k"] f1 fd1) (D2 : Df K mg "_law_right" s_right ["_law_pot_here"] f2 fd2) (G2 : FnG P w K mg base 8 f2 fd2 ["_law_pot_here"] sp_right) : FnG P w K mg base 9 f fd ["_law_script"] (sp_law K) := by
  have G1 : FnOk P w K mg base CX0 1 f1 fd1 ["_law_script", "_law_k"] (sp_pot K) := ok_pot D1.F B
  refine F.okG sc_law (fun vs H Q E h => ?_) (fun cdv A outer s H vs Q E gd hr h => ?_)
  · obtain ⟨l, ns, rfl, _⟩ := h
    rfl
  · obtain ⟨l, ns, rfl, hs, hn, q⟩ := h
    have r1 : Room 1 _ := hr.mono (by decide)
    refine ⟨_, pss_one (ps_ret (pe_callB (cr_all rfl) (by rfl) B.all boot_all (pa_cons (pe_lc (own := [("_law_k", 1)]) (g := gName 1) (tt := tYes) rfl sc_law.nd
      (pi_range1 (by rfl) B.range (pa_cons (pe_callB (call_max2 rfl) (by rfl) B.max boot_max (pa_cons pe_int (pa_cons (pe_callB (call_min2 rfl) (by rfl) B.min boot_min (pa_cons pe_int (pa_cons (pe_callB call_len_seq (by rfl) B.len PySem.boot_len (pa_cons (pv 0) pa_nil)) pa_nil))) pa_nil))) pa_nil))
      (blkOk_by (N := ["_law_script", "_law_k"]) (sc := defScope s_law) (by decide +kernel)) (fun _ _ _ _ _ => pg_name (i := 1) sc_law.nd rfl (Or.inl rfl)) (fun _ _ _ _ _ => pts_nil)
      (fun _ _ _ _ _ => pe_callG (E := E0) G2 gd hr (by rfl) D2.g D2.F.kp D2.b .nil (pa_cons (pdf D1 G1 r1 (pa_cons (pv 0) (pa_cons (pv 1) pa_nil))) pa_nil))) pa_nil))), ?_⟩
    refine ⟨_, rfl, l, _, rfl, .inl hs, 2, _, rfl, 1, _, rfl, ?_⟩
    have nb : (0 : Int) ≤ (if (if (((ns.map V.int).length : Nat) : Int) < 2 then (((ns.map V.int).length : Nat) : Int) else 2) > 1 then (if (((ns.map V.int).length : Nat) : Int) < 2 then (((ns.map V.int).length : Nat) : Int) else 2) else 1) ∧
        (if (if (((ns.map V.int).length : Nat) : Int) < 2 then (((ns.map V.int).length : Nat) : Int) else 2) > 1 then (if (((ns.map V.int).length : Nat) : Int) < 2 then (((ns.map V.int).length : Nat) : Int) else 2) else 1) ≤ 2 := by
      split <;> split <;> omega
    revert nb
    generalize (if (if (((ns.map V.int).length : Nat) : Int) < 2 then (((ns.map V.int).length : Nat) : Int) else 2) > 1 then (if (((ns.map V.int).length : Nat) : Int) < 2 then (((ns.map V.int).length : Nat) : Int) else 2) else 1) = m
    rintro ⟨m0, m2⟩
    refine ⟨m, rfl, by omega, by omega, fun L hL => ?_⟩
    refine lc_range (n := m.toNat) (fun i H1 => Same H H1 ∧ H1 L = some (.lst ((List.replicate i true).map V.bl))) ⟨same_new hL, upd_same⟩ ?_ ?_
    · rintro i H1 hi ⟨s1, h1⟩
      refine ⟨rfl, yes_ite ?_⟩
      refine ⟨_, rfl, _, rfl, l, ns, i, (by rw [Int.zero_add]; rfl), s1.seq hs, hn, by omega, fun H2 p D s2 sD w2 => ?_⟩
      refine ⟨p, D, rfl, w2, fun H3 w3 => ?_⟩
      refine ⟨_, w3.s _ _ (sD _ _ h1), ?_, (s1.trans (sD.trans w3.s)).lst hL, ?_⟩
      · rw [List.length_map, List.length_replicate]
        exact Nat.lt_of_lt_of_le (show i < 2 by omega) (by decide)
      · rw [upd_same, List.replicate_succ', List.map_append]
        rfl
    · rintro H1 ⟨s1, h1⟩
      refine ⟨L, List.replicate m.toNat true, rfl, SqL.mk h1, ?_⟩
      have e : (List.replicate m.toNat true).all id = true := by
        rw [List.all_eq_true]
        intro x hx
        rw [(List.mem_replicate.mp hx).2]
        rfl
      rw [e]
      exact q _
end
end G0

namespace G0
open PySem PySem.Spec PyProof.Rows L2
/-! ### what the top has written; the head -/
theorem all_mk {l : PySem.W.OpenLaw} {w : World} {K : PySem.W.Frag} {h : Heap} {mg : Str → Option Value} {fa f_isint f_islist f_divisor f_plain f_isthree f_ispoint f_tp f_pot f_draw f_pick f_common f_told f_cross f_point f_given f_great f_one f_two f_right f_law C_S f_init f_pts f_pl : Addr} (X : K.In h) (G : h.Ns mainGlobals mg) (hfa : mg "law" = some (.ref fa))
    {od_isint an_isint : Option Addr} {sl_isint : Array (Option Value)} {oc_isint kV_isint dc_isint pm_isint cd_isint ct_isint : Value}
    {od_islist an_islist : Option Addr} {sl_islist : Array (Option Value)} {oc_islist kV_islist dc_islist pm_islist cd_islist ct_islist : Value}
    {od_divisor an_divisor : Option Addr} {sl_divisor : Array (Option Value)} {oc_divisor kV_divisor dc_divisor pm_divisor cd_divisor ct_divisor : Value}
    {od_plain an_plain : Option Addr} {sl_plain : Array (Option Value)} {oc_plain kV_plain dc_plain pm_plain cd_plain ct_plain : Value}
    {od_isthree an_isthree : Option Addr} {sl_isthree : Array (Option Value)} {oc_isthree kV_isthree dc_isthree pm_isthree cd_isthree ct_isthree : Value}
    {od_ispoint an_ispoint : Option Addr} {sl_ispoint : Array (Option Value)} {oc_ispoint kV_ispoint dc_ispoint pm_ispoint cd_ispoint ct_ispoint : Value}
    {od_tp an_tp : Option Addr} {sl_tp : Array (Option Value)} {oc_tp kV_tp dc_tp pm_tp cd_tp ct_tp : Value}
    {od_pot an_pot : Option Addr} {sl_pot : Array (Option Value)} {oc_pot kV_pot dc_pot pm_pot cd_pot ct_pot : Value}
    {od_draw an_draw : Option Addr} {sl_draw : Array (Option Value)} {oc_draw kV_draw dc_draw pm_draw cd_draw ct_draw : Value}
    {od_pick an_pick : Option Addr} {sl_pick : Array (Option Value)} {oc_pick kV_pick dc_pick pm_pick cd_pick ct_pick : Value}
    {od_common an_common : Option Addr} {sl_common : Array (Option Value)} {oc_common kV_common dc_common pm_common cd_common ct_common : Value}
    {od_told an_told : Option Addr} {sl_told : Array (Option Value)} {oc_told kV_told dc_told pm_told cd_told ct_told : Value}
    {od_cross an_cross : Option Addr} {sl_cross : Array (Option Value)} {oc_cross kV_cross dc_cross pm_cross cd_cross ct_cross : Value}
    {od_point an_point : Option Addr} {sl_point : Array (Option Value)} {oc_point kV_point dc_point pm_point cd_point ct_point : Value}
    {od_given an_given : Option Addr} {sl_given : Array (Option Value)} {oc_given kV_given dc_given pm_given cd_given ct_given : Value}
    {od_great an_great : Option Addr} {sl_great : Array (Option Value)} {oc_great kV_great dc_great pm_great cd_great ct_great : Value}
    {od_one an_one : Option Addr} {sl_one : Array (Option Value)} {oc_one kV_one dc_one pm_one cd_one ct_one : Value}
    {od_two an_two : Option Addr} {sl_two : Array (Option Value)} {oc_two kV_two dc_two pm_two cd_two ct_two : Value}
    {od_right an_right : Option Addr} {sl_right : Array (Option Value)} {oc_right kV_right dc_right pm_right cd_right ct_right : Value}
    {od_law an_law : Option Addr} {sl_law : Array (Option Value)} {oc_law kV_law dc_law pm_law cd_law ct_law : Value}
    {od_init an_init : Option Addr} {sl_init : Array (Option Value)} {oc_init kV_init dc_init pm_init cd_init ct_init : Value}
    {od_pts an_pts : Option Addr} {sl_pts : Array (Option Value)} {oc_pts kV_pts dc_pts pm_pts cd_pts ct_pts : Value}
    {od_pl an_pl : Option Addr} {sl_pl : Array (Option Value)} {oc_pl kV_pl dc_pl pm_pl cd_pl ct_pl : Value}
    {t24 : Tok}
    (a_isint : PySem.W.nsIn K mainGlobals "is_integer" = some (some (.ref f_isint)))
    (l_isint : K.lookup f_isint = some ⟨oc_isint, od_isint, .func (PySem.W.fnOf "is_integer" "is_integer" (defArgs s_is_integer) (defBody s_is_integer) (defScope s_is_integer) .none kV_isint dc_isint pm_isint an_isint cd_isint ct_isint), sl_isint⟩) (c_isint : PySem.W.codeIn K cd_isint "is_integer" = true) (k_isint : PySem.W.keepIn K (.ref f_isint) = true)
    (a_islist : PySem.W.nsIn K mainGlobals "is_list" = some (some (.ref f_islist)))
    (l_islist : K.lookup f_islist = some ⟨oc_islist, od_islist, .func (PySem.W.fnOf "is_list" "is_list" (defArgs s_is_list) (defBody s_is_list) (defScope s_is_list) .none kV_islist dc_islist pm_islist an_islist cd_islist ct_islist), sl_islist⟩) (c_islist : PySem.W.codeIn K cd_islist "is_list" = true) (k_islist : PySem.W.keepIn K (.ref f_islist) = true)
    (a_divisor : PySem.W.nsIn K mainGlobals "divisor" = some (some (.ref f_divisor)))
    (l_divisor : K.lookup f_divisor = some ⟨oc_divisor, od_divisor, .func (PySem.W.fnOf "divisor" "divisor" (defArgs s_divisor) (defBody s_divisor) (defScope s_divisor) .none kV_divisor dc_divisor pm_divisor an_divisor cd_divisor ct_divisor), sl_divisor⟩) (c_divisor : PySem.W.codeIn K cd_divisor "divisor" = true) (k_divisor : PySem.W.keepIn K (.ref f_divisor) = true)
    (a_plain : PySem.W.nsIn K mainGlobals "plain" = some (some (.ref f_plain)))
    (l_plain : K.lookup f_plain = some ⟨oc_plain, od_plain, .func (PySem.W.fnOf "plain" "plain" (defArgs s_plain) (defBody s_plain) (defScope s_plain) .none kV_plain dc_plain pm_plain an_plain cd_plain ct_plain), sl_plain⟩) (c_plain : PySem.W.codeIn K cd_plain "plain" = true) (k_plain : PySem.W.keepIn K (.ref f_plain) = true)
    (a_isthree : PySem.W.nsIn K mainGlobals "is_three" = some (some (.ref f_isthree)))
    (l_isthree : K.lookup f_isthree = some ⟨oc_isthree, od_isthree, .func (PySem.W.fnOf "is_three" "is_three" (defArgs s_is_three) (defBody s_is_three) (defScope s_is_three) .none kV_isthree dc_isthree pm_isthree an_isthree cd_isthree ct_isthree), sl_isthree⟩) (c_isthree : PySem.W.codeIn K cd_isthree "is_three" = true) (k_isthree : PySem.W.keepIn K (.ref f_isthree) = true)
    (a_ispoint : PySem.W.nsIn K mainGlobals "is_point" = some (some (.ref f_ispoint)))
    (l_ispoint : K.lookup f_ispoint = some ⟨oc_ispoint, od_ispoint, .func (PySem.W.fnOf "is_point" "is_point" (defArgs s_is_point) (defBody s_is_point) (defScope s_is_point) .none kV_ispoint dc_ispoint pm_ispoint an_ispoint cd_ispoint ct_ispoint), sl_ispoint⟩) (c_ispoint : PySem.W.codeIn K cd_ispoint "is_point" = true) (k_ispoint : PySem.W.keepIn K (.ref f_ispoint) = true)
    (a_tp : PySem.W.nsIn K mainGlobals "told_point" = some (some (.ref f_tp)))
    (l_tp : K.lookup f_tp = some ⟨oc_tp, od_tp, .func (PySem.W.fnOf "told_point" "told_point" (defArgs s_told_point) (defBody s_told_point) (defScope s_told_point) .none kV_tp dc_tp pm_tp an_tp cd_tp ct_tp), sl_tp⟩) (c_tp : PySem.W.codeIn K cd_tp "told_point" = true) (k_tp : PySem.W.keepIn K (.ref f_tp) = true)
    (a_pot : PySem.W.nsIn K mainGlobals "_law_pot" = some (some (.ref f_pot)))
    (l_pot : K.lookup f_pot = some ⟨oc_pot, od_pot, .func (PySem.W.fnOf "_law_pot" "_law_pot" (defArgs s_pot) (defBody s_pot) (defScope s_pot) .none kV_pot dc_pot pm_pot an_pot cd_pot ct_pot), sl_pot⟩) (c_pot : PySem.W.codeIn K cd_pot "_law_pot" = true) (k_pot : PySem.W.keepIn K (.ref f_pot) = true)
    (a_draw : PySem.W.nsIn K mainGlobals "_law_draw" = some (some (.ref f_draw)))
    (l_draw : K.lookup f_draw = some ⟨oc_draw, od_draw, .func (PySem.W.fnOf "_law_draw" "_law_draw" (defArgs s_draw) (defBody s_draw) (defScope s_draw) .none kV_draw dc_draw pm_draw an_draw cd_draw ct_draw), sl_draw⟩) (c_draw : PySem.W.codeIn K cd_draw "_law_draw" = true) (k_draw : PySem.W.keepIn K (.ref f_draw) = true)
    (a_pick : PySem.W.nsIn K mainGlobals "_law_pick" = some (some (.ref f_pick)))
    (l_pick : K.lookup f_pick = some ⟨oc_pick, od_pick, .func (PySem.W.fnOf "_law_pick" "_law_pick" (defArgs s_pick) (defBody s_pick) (defScope s_pick) .none kV_pick dc_pick pm_pick an_pick cd_pick ct_pick), sl_pick⟩) (c_pick : PySem.W.codeIn K cd_pick "_law_pick" = true) (k_pick : PySem.W.keepIn K (.ref f_pick) = true)
    (a_common : PySem.W.nsIn K mainGlobals "_law_common" = some (some (.ref f_common)))
    (l_common : K.lookup f_common = some ⟨oc_common, od_common, .func (PySem.W.fnOf "_law_common" "_law_common" (defArgs s_common) (defBody s_common) (defScope s_common) .none kV_common dc_common pm_common an_common cd_common ct_common), sl_common⟩) (c_common : PySem.W.codeIn K cd_common "_law_common" = true) (k_common : PySem.W.keepIn K (.ref f_common) = true)
    (a_told : PySem.W.nsIn K mainGlobals "_law_told" = some (some (.ref f_told)))
    (l_told : K.lookup f_told = some ⟨oc_told, od_told, .func (PySem.W.fnOf "_law_told" "_law_told" (defArgs s_told) (defBody s_told) (defScope s_told) .none kV_told dc_told pm_told an_told cd_told ct_told), sl_told⟩) (c_told : PySem.W.codeIn K cd_told "_law_told" = true) (k_told : PySem.W.keepIn K (.ref f_told) = true)
    (a_cross : PySem.W.nsIn K mainGlobals "_law_cross" = some (some (.ref f_cross)))
    (l_cross : K.lookup f_cross = some ⟨oc_cross, od_cross, .func (PySem.W.fnOf "_law_cross" "_law_cross" (defArgs s_cross) (defBody s_cross) (defScope s_cross) .none kV_cross dc_cross pm_cross an_cross cd_cross ct_cross), sl_cross⟩) (c_cross : PySem.W.codeIn K cd_cross "_law_cross" = true) (k_cross : PySem.W.keepIn K (.ref f_cross) = true)
    (a_point : PySem.W.nsIn K mainGlobals "_law_point" = some (some (.ref f_point)))
    (l_point : K.lookup f_point = some ⟨oc_point, od_point, .func (PySem.W.fnOf "_law_point" "_law_point" (defArgs s_point) (defBody s_point) (defScope s_point) .none kV_point dc_point pm_point an_point cd_point ct_point), sl_point⟩) (c_point : PySem.W.codeIn K cd_point "_law_point" = true) (k_point : PySem.W.keepIn K (.ref f_point) = true)
    (a_given : PySem.W.nsIn K mainGlobals "_law_given" = some (some (.ref f_given)))
    (l_given : K.lookup f_given = some ⟨oc_given, od_given, .func (PySem.W.fnOf "_law_given" "_law_given" (defArgs s_given) (defBody s_given) (defScope s_given) .none kV_given dc_given pm_given an_given cd_given ct_given), sl_given⟩) (c_given : PySem.W.codeIn K cd_given "_law_given" = true) (k_given : PySem.W.keepIn K (.ref f_given) = true)
    (a_great : PySem.W.nsIn K mainGlobals "_law_great" = some (some (.ref f_great)))
    (l_great : K.lookup f_great = some ⟨oc_great, od_great, .func (PySem.W.fnOf "_law_great" "_law_great" (defArgs s_great) (defBody s_great) (defScope s_great) .none kV_great dc_great pm_great an_great cd_great ct_great), sl_great⟩) (c_great : PySem.W.codeIn K cd_great "_law_great" = true) (k_great : PySem.W.keepIn K (.ref f_great) = true)
    (a_one : PySem.W.nsIn K mainGlobals "_law_one_right" = some (some (.ref f_one)))
    (l_one : K.lookup f_one = some ⟨oc_one, od_one, .func (PySem.W.fnOf "_law_one_right" "_law_one_right" (defArgs s_one) (defBody s_one) (defScope s_one) .none kV_one dc_one pm_one an_one cd_one ct_one), sl_one⟩) (c_one : PySem.W.codeIn K cd_one "_law_one_right" = true) (k_one : PySem.W.keepIn K (.ref f_one) = true)
    (a_two : PySem.W.nsIn K mainGlobals "_law_two_right" = some (some (.ref f_two)))
    (l_two : K.lookup f_two = some ⟨oc_two, od_two, .func (PySem.W.fnOf "_law_two_right" "_law_two_right" (defArgs s_two) (defBody s_two) (defScope s_two) .none kV_two dc_two pm_two an_two cd_two ct_two), sl_two⟩) (c_two : PySem.W.codeIn K cd_two "_law_two_right" = true) (k_two : PySem.W.keepIn K (.ref f_two) = true)
    (a_right : PySem.W.nsIn K mainGlobals "_law_right" = some (some (.ref f_right)))
    (l_right : K.lookup f_right = some ⟨oc_right, od_right, .func (PySem.W.fnOf "_law_right" "_law_right" (defArgs s_right) (defBody s_right) (defScope s_right) .none kV_right dc_right pm_right an_right cd_right ct_right), sl_right⟩) (c_right : PySem.W.codeIn K cd_right "_law_right" = true) (k_right : PySem.W.keepIn K (.ref f_right) = true)
    (a_law : PySem.W.nsIn K mainGlobals "law" = some (some (.ref f_law)))
    (l_law : K.lookup f_law = some ⟨oc_law, od_law, .func (PySem.W.fnOf "law" "law" (defArgs s_law) (defBody s_law) (defScope s_law) .none kV_law dc_law pm_law an_law cd_law ct_law), sl_law⟩) (c_law : PySem.W.codeIn K cd_law "law" = true) (k_law : PySem.W.keepIn K (.ref f_law) = true)
    (a_S : PySem.W.nsIn K mainGlobals "Spots" = some (some (.ref C_S)))
    (a_init : PySem.W.findIn K (.ref C_S) "__init__" = some (some (.ref f_init))) (i_init : PySem.W.isFn K (.ref f_init) = true)
    (l_init : K.lookup f_init = some ⟨oc_init, od_init, .func (PySem.W.fnOf "__init__" "Spots.__init__" (defArgs s_Spots_init) (defBody s_Spots_init) (defScope s_Spots_init) .none kV_init dc_init pm_init an_init cd_init ct_init), sl_init⟩) (c_init : PySem.W.codeIn K cd_init "Spots.__init__" = true) (k_init : PySem.W.keepIn K (.ref f_init) = true)
    (a_pts : PySem.W.findIn K (.ref C_S) "points" = some (some (.ref f_pts))) (i_pts : PySem.W.isFn K (.ref f_pts) = true)
    (l_pts : K.lookup f_pts = some ⟨oc_pts, od_pts, .func (PySem.W.fnOf "points" "Spots.points" (defArgs s_Spots_points) (defBody s_Spots_points) (defScope s_Spots_points) .none kV_pts dc_pts pm_pts an_pts cd_pts ct_pts), sl_pts⟩) (c_pts : PySem.W.codeIn K cd_pts "Spots.points" = true) (k_pts : PySem.W.keepIn K (.ref f_pts) = true)
    (a_pl : PySem.W.findIn K (.ref C_S) "place" = some (some (.ref f_pl))) (i_pl : PySem.W.isFn K (.ref f_pl) = true)
    (l_pl : K.lookup f_pl = some ⟨oc_pl, od_pl, .func (PySem.W.fnOf "place" "Spots.place" (defArgs s_Spots_place) (defBody s_Spots_place) (defScope s_Spots_place) .none kV_pl dc_pl pm_pl an_pl cd_pl ct_pl), sl_pl⟩) (c_pl : PySem.W.codeIn K cd_pl "Spots.place" = true) (k_pl : PySem.W.keepIn K (.ref f_pl) = true)
    (pg_S : PySem.W.plainGet K C_S Str.empty = true) (hd_S : PySem.W.hasDictIn K C_S = true) (po_S : PySem.W.plainOver K C_S = true) (sa_S : PySem.W.findIn K (.ref C_S) "__setattr__" = some (some (.builtin "object.__setattr__"))) (mk_S : PySem.W.makesIn K C_S = true) (kc_S : PySem.W.keepIn K (.ref C_S) = true)
    (n_S_points : PySem.W.findIn K (.ref C_S) "_points" = some none)
    (v_most : PySem.W.nsIn K mainGlobals "MOST_POINTS" = some (some (.int 24 t24)))
    (v_gcd : PySem.W.nsIn K mainGlobals "gcd" = some (some (.builtin "math.gcd")))
    (z_isinstance : PySem.W.nsIn K mainGlobals "isinstance" = some none)
    (z_int : PySem.W.nsIn K mainGlobals "int" = some none)
    (z_bool : PySem.W.nsIn K mainGlobals "bool" = some none)
    (z_list : PySem.W.nsIn K mainGlobals "list" = some none)
    (z_tuple : PySem.W.nsIn K mainGlobals "tuple" = some none)
    (z_len : PySem.W.nsIn K mainGlobals "len" = some none)
    (z_all : PySem.W.nsIn K mainGlobals "all" = some none)
    (z_any : PySem.W.nsIn K mainGlobals "any" = some none)
    (z_abs : PySem.W.nsIn K mainGlobals "abs" = some none)
    (z_max : PySem.W.nsIn K mainGlobals "max" = some none)
    (z_min : PySem.W.nsIn K mainGlobals "min" = some none)
    (z_divmod : PySem.W.nsIn K mainGlobals "divmod" = some none)
    (z_range : PySem.W.nsIn K mainGlobals "range" = some none)
    (z_repr : PySem.W.nsIn K mainGlobals "repr" = some none)
    (z_enumerate : PySem.W.nsIn K mainGlobals "enumerate" = some none) :
    ∃ fd : FuncData, (∀ (s : Shared) (v : Value), BindsTo s fd ⟨[v], []⟩ [("_law_script", v)]) ∧ ∀ base : Heap, K.In base → base.Ns mainGlobals mg → FnG l.prog w K mg base 9 fa fd ["_law_script"] (sp_law K) := by
  have e := hfa.symm.trans (PySem.W.mg_of X G a_law)
  cases e
  have F_isint := fun_mk (st := s_is_integer) l_isint c_isint k_isint
  have b_isint := F_isint.binds (ps := ["value"]) fun _ _ _ _ _ _ us hl => match us, hl with | [_], _ => rfl
  have D_isint : Df K mg "is_integer" s_is_integer ["value"] f_isint _ := ⟨F_isint, PySem.W.mg_of X G a_isint, b_isint⟩
  have F_islist := fun_mk (st := s_is_list) l_islist c_islist k_islist
  have b_islist := F_islist.binds (ps := ["value"]) fun _ _ _ _ _ _ us hl => match us, hl with | [_], _ => rfl
  have D_islist : Df K mg "is_list" s_is_list ["value"] f_islist _ := ⟨F_islist, PySem.W.mg_of X G a_islist, b_islist⟩
  have F_divisor := fun_mk (st := s_divisor) l_divisor c_divisor k_divisor
  have b_divisor := F_divisor.binds (ps := ["numbers"]) fun _ _ _ _ _ _ us hl => match us, hl with | [_], _ => rfl
  have D_divisor : Df K mg "divisor" s_divisor ["numbers"] f_divisor _ := ⟨F_divisor, PySem.W.mg_of X G a_divisor, b_divisor⟩
  have F_plain := fun_mk (st := s_plain) l_plain c_plain k_plain
  have b_plain := F_plain.binds (ps := ["numbers"]) fun _ _ _ _ _ _ us hl => match us, hl with | [_], _ => rfl
  have D_plain : Df K mg "plain" s_plain ["numbers"] f_plain _ := ⟨F_plain, PySem.W.mg_of X G a_plain, b_plain⟩
  have F_isthree := fun_mk (st := s_is_three) l_isthree c_isthree k_isthree
  have b_isthree := F_isthree.binds (ps := ["value"]) fun _ _ _ _ _ _ us hl => match us, hl with | [_], _ => rfl
  have D_isthree : Df K mg "is_three" s_is_three ["value"] f_isthree _ := ⟨F_isthree, PySem.W.mg_of X G a_isthree, b_isthree⟩
  have F_ispoint := fun_mk (st := s_is_point) l_ispoint c_ispoint k_ispoint
  have b_ispoint := F_ispoint.binds (ps := ["value"]) fun _ _ _ _ _ _ us hl => match us, hl with | [_], _ => rfl
  have D_ispoint : Df K mg "is_point" s_is_point ["value"] f_ispoint _ := ⟨F_ispoint, PySem.W.mg_of X G a_ispoint, b_ispoint⟩
  have F_tp := fun_mk (st := s_told_point) l_tp c_tp k_tp
  have b_tp := F_tp.binds (ps := ["point"]) fun _ _ _ _ _ _ us hl => match us, hl with | [_], _ => rfl
  have D_tp : Df K mg "told_point" s_told_point ["point"] f_tp _ := ⟨F_tp, PySem.W.mg_of X G a_tp, b_tp⟩
  have F_pot := fun_mk (st := s_pot) l_pot c_pot k_pot
  have b_pot := F_pot.binds (ps := ["_law_script", "_law_k"]) fun _ _ _ _ _ _ us hl => match us, hl with | [_, _], _ => rfl
  have D_pot : Df K mg "_law_pot" s_pot ["_law_script", "_law_k"] f_pot _ := ⟨F_pot, PySem.W.mg_of X G a_pot, b_pot⟩
  have F_draw := fun_mk (st := s_draw) l_draw c_draw k_draw
  have b_draw := F_draw.binds (ps := ["_law_pot_here", "_law_many"]) fun _ _ _ _ _ _ us hl => match us, hl with | [_, _], _ => rfl
  have D_draw : Df K mg "_law_draw" s_draw ["_law_pot_here", "_law_many"] f_draw _ := ⟨F_draw, PySem.W.mg_of X G a_draw, b_draw⟩
  have F_pick := fun_mk (st := s_pick) l_pick c_pick k_pick
  have b_pick := F_pick.binds (ps := ["_law_pot_here", "_law_some"]) fun _ _ _ _ _ _ us hl => match us, hl with | [_, _], _ => rfl
  have D_pick : Df K mg "_law_pick" s_pick ["_law_pot_here", "_law_some"] f_pick _ := ⟨F_pick, PySem.W.mg_of X G a_pick, b_pick⟩
  have F_common := fun_mk (st := s_common) l_common c_common k_common
  have b_common := F_common.binds (ps := ["_law_numbers"]) fun _ _ _ _ _ _ us hl => match us, hl with | [_], _ => rfl
  have D_common : Df K mg "_law_common" s_common ["_law_numbers"] f_common _ := ⟨F_common, PySem.W.mg_of X G a_common, b_common⟩
  have F_told := fun_mk (st := s_told) l_told c_told k_told
  have b_told := F_told.binds (ps := ["_law_point_here"]) fun _ _ _ _ _ _ us hl => match us, hl with | [_], _ => rfl
  have D_told : Df K mg "_law_told" s_told ["_law_point_here"] f_told _ := ⟨F_told, PySem.W.mg_of X G a_told, b_told⟩
  have F_cross := fun_mk (st := s_cross) l_cross c_cross k_cross
  have b_cross := F_cross.binds (ps := ["_law_one", "_law_other"]) fun _ _ _ _ _ _ us hl => match us, hl with | [_, _], _ => rfl
  have D_cross : Df K mg "_law_cross" s_cross ["_law_one", "_law_other"] f_cross _ := ⟨F_cross, PySem.W.mg_of X G a_cross, b_cross⟩
  have F_point := fun_mk (st := s_point) l_point c_point k_point
  have b_point := F_point.binds (ps := ["_law_pot_here", "_law_most"]) fun _ _ _ _ _ _ us hl => match us, hl with | [_, _], _ => rfl
  have D_point : Df K mg "_law_point" s_point ["_law_pot_here", "_law_most"] f_point _ := ⟨F_point, PySem.W.mg_of X G a_point, b_point⟩
  have F_given := fun_mk (st := s_given) l_given c_given k_given
  have b_given := F_given.binds (ps := ["_law_pot_here", "_law_point_here"]) fun _ _ _ _ _ _ us hl => match us, hl with | [_, _], _ => rfl
  have D_given : Df K mg "_law_given" s_given ["_law_pot_here", "_law_point_here"] f_given _ := ⟨F_given, PySem.W.mg_of X G a_given, b_given⟩
  have F_great := fun_mk (st := s_great) l_great c_great k_great
  have b_great := F_great.binds (ps := ["_law_pot_here"]) fun _ _ _ _ _ _ us hl => match us, hl with | [_], _ => rfl
  have D_great : Df K mg "_law_great" s_great ["_law_pot_here"] f_great _ := ⟨F_great, PySem.W.mg_of X G a_great, b_great⟩
  have F_one := fun_mk (st := s_one) l_one c_one k_one
  have b_one := F_one.binds (ps := ["_law_pot_here", "_law_point_here"]) fun _ _ _ _ _ _ us hl => match us, hl with | [_, _], _ => rfl
  have D_one : Df K mg "_law_one_right" s_one ["_law_pot_here", "_law_point_here"] f_one _ := ⟨F_one, PySem.W.mg_of X G a_one, b_one⟩
  have F_two := fun_mk (st := s_two) l_two c_two k_two
  have b_two := F_two.binds (ps := ["_law_pot_here"]) fun _ _ _ _ _ _ us hl => match us, hl with | [_], _ => rfl
  have D_two : Df K mg "_law_two_right" s_two ["_law_pot_here"] f_two _ := ⟨F_two, PySem.W.mg_of X G a_two, b_two⟩
  have F_right := fun_mk (st := s_right) l_right c_right k_right
  have b_right := F_right.binds (ps := ["_law_pot_here"]) fun _ _ _ _ _ _ us hl => match us, hl with | [_], _ => rfl
  have D_right : Df K mg "_law_right" s_right ["_law_pot_here"] f_right _ := ⟨F_right, PySem.W.mg_of X G a_right, b_right⟩
  have F_law := fun_mk (st := s_law) l_law c_law k_law
  have F_init := fun_mk (st := s_Spots_init) l_init c_init k_init
  have b_init := F_init.binds (ps := ["self", "points"]) fun _ _ _ _ _ _ us hl => match us, hl with | [_, _], _ => rfl
  have F_pts := fun_mk (st := s_Spots_points) l_pts c_pts k_pts
  have b_pts := F_pts.binds (ps := ["self"]) fun _ _ _ _ _ _ us hl => match us, hl with | [_], _ => rfl
  have F_pl := fun_mk (st := s_Spots_place) l_pl c_pl k_pl
  have b_pl := F_pl.binds (ps := ["self", "point"]) fun _ _ _ _ _ _ us hl => match us, hl with | [_, _], _ => rfl
  have B : Blt mg := ⟨PySem.W.mg_none_of X G z_isinstance, PySem.W.mg_none_of X G z_int, PySem.W.mg_none_of X G z_bool, PySem.W.mg_none_of X G z_list, PySem.W.mg_none_of X G z_tuple, PySem.W.mg_none_of X G z_len, PySem.W.mg_none_of X G z_all, PySem.W.mg_none_of X G z_any, PySem.W.mg_none_of X G z_abs, PySem.W.mg_none_of X G z_max, PySem.W.mg_none_of X G z_min, PySem.W.mg_none_of X G z_divmod, PySem.W.mg_none_of X G z_range, PySem.W.mg_none_of X G z_repr, PySem.W.mg_none_of X G z_enumerate⟩
  have hG := PySem.W.mg_of X G v_gcd
  have S : SpTxt K mg C_S := ⟨⟨pg_S, hd_S, po_S, sa_S⟩, n_S_points, PySem.W.mg_of X G a_S, ⟨_, PySem.W.mg_of X G v_most⟩⟩
  refine ⟨PySem.W.fnOf "law" "law" (defArgs s_law) (defBody s_law) (defScope s_law) .none kV_law dc_law pm_law an_law cd_law ct_law, fun s v => .of_eq rfl, fun base _ _ => ?_⟩
  · have GD : FnOk l.prog w K mg base CX0 1 f_draw _ ["_law_pot_here", "_law_many"] sp_draw := ok_draw F_draw B
    have GIL : FnOk l.prog w K mg base CX0 1 f_islist _ ["value"] (sp_is_list K) := ok_is_list F_islist B
    have GIP : FnOk l.prog w K mg base CX0 3 f_ispoint _ ["value"] (sp_is_point K) := ok_is_point F_ispoint B D_isthree D_isint D_islist
    have GPl : FnOk l.prog w K mg base CX0 2 f_plain _ ["numbers"] (sp_plain K) := ok_plain F_plain hG D_divisor
    have GTP : FnOk l.prog w K mg base CX0 4 f_tp _ ["point"] (sp_told_point K) := ok_told_point F_tp B D_ispoint D_plain GIP GPl
    have GPick : FnOk l.prog w K mg base CX0 2 f_pick _ ["_law_pot_here", "_law_some"] (sp_pick K) := ok_pick F_pick B D_draw GD
    have GCom : FnOk l.prog w K mg base CX0 1 f_common _ ["_law_numbers"] (sp_common K) := ok_common F_common B
    have T : Defs l.prog w K mg base C_S f_init f_pts f_pl f_tp f_ispoint f_draw f_pick f_point f_given f_great f_told f_cross _ _ _ _ _ _ _ _ _ _ _ _ :=
      { B := B, S := S, M := ⟨mk_S, a_init, i_init, kc_S⟩, bI := b_init, GI := ok_init F_init S B D_islist D_ispoint D_tp GIL GIP GTP,
        mPts := ⟨a_pts, i_pts, k_pts⟩, bPts := b_pts, GPts := ok_points F_pts S B,
        mPl := ⟨a_pl, i_pl, k_pl⟩, bPl := b_pl, kPl := kb_of F_pl (fun _ _ _ _ _ _ us ws h1 h2 => match us, ws, h1, h2 with | [_], [_], _, _ => rfl), GPl := ok_place F_pl S D_tp GTP,
        TP := D_tp, kTP := kb_of F_tp (fun _ _ _ _ _ _ us ws h1 h2 => match us, ws, h1, h2 with | [], [_], _, _ => rfl), GTP := told2_of GTP,
        IP := D_ispoint, kIP := kb_of F_ispoint (fun _ _ _ _ _ _ us ws h1 h2 => match us, ws, h1, h2 with | [], [_], _, _ => rfl), GIP := GIP,
        Draw := D_draw, GDraw := GD, Pick := D_pick, GPick := GPick, Point := D_point, GPoint := ok_point F_point B D_draw GD, Given := D_given, GGiven := ok_given F_given B D_draw GD,
        Great := D_great, GGreat := ok_great F_great B D_draw GD D_pick GPick, Told := D_told, GTold := ok_told F_told B D_common GCom, Cross := D_cross, GCross := ok_cross F_cross }
    exact ok_law F_law B D_pot D_right (ok_right F_right T D_one D_two)
end G0

open PySem PySem.W PyProof.Rows
set_option maxRecDepth 100000 in
set_option maxHeartbeats 0 in
theorem PySem.Challenge.cw_pointrows_k21_whole_points_told_holds : PySem.Challenge.rw_pointrows_k21_whole_points_told.Holds := by
  w_on; o_law; k_head; (case hw => w_witness2)
  k_fill
  refine G0.walk_G (l := PySem.Challenge.rw_pointrows_k21_whole_points_told) (n := 63) (k := 9) (x := "_law_script") (sp := G0.sp_law) rfl (by decide) rfl ⟨rfl, by decide, by decide⟩ (fun w h Y => PySem.W.kIn_of Y) ?F (fun _ _ a ns hl _ hS => ⟨a, ns, rfl, hS, hl, fun _ => rfl⟩)
  case F =>
    intro w mg fa h KX G hmg
    refine' G0.all_mk KX G hmg ?a_isint ?l_isint ?c_isint ?k_isint ?a_islist ?l_islist ?c_islist ?k_islist ?a_divisor ?l_divisor ?c_divisor ?k_divisor ?a_plain ?l_plain ?c_plain ?k_plain ?a_isthree ?l_isthree ?c_isthree ?k_isthree ?a_ispoint ?l_ispoint ?c_ispoint ?k_ispoint ?a_tp ?l_tp ?c_tp ?k_tp ?a_pot ?l_pot ?c_pot ?k_pot ?a_draw ?l_draw ?c_draw ?k_draw ?a_pick ?l_pick ?c_pick ?k_pick ?a_common ?l_common ?c_common ?k_common ?a_told ?l_told ?c_told ?k_told ?a_cross ?l_cross ?c_cross ?k_cross ?a_point ?l_point ?c_point ?k_point ?a_given ?l_given ?c_given ?k_given ?a_great ?l_great ?c_great ?k_great ?a_one ?l_one ?c_one ?k_one ?a_two ?l_two ?c_two ?k_two ?a_right ?l_right ?c_right ?k_right ?a_law ?l_law ?c_law ?k_law ?a_S ?a_init ?i_init ?l_init ?c_init ?k_init ?a_pts ?i_pts ?l_pts ?c_pts ?k_pts ?a_pl ?i_pl ?l_pl ?c_pl ?k_pl ?pg_S ?hd_S ?po_S ?sa_S ?mk_S ?kc_S ?n_S_points ?v_most ?v_gcd ?z_isinstance ?z_int ?z_bool ?z_list ?z_tuple ?z_len ?z_all ?z_any ?z_abs ?z_max ?z_min ?z_divmod ?z_range ?z_repr ?z_enumerate
    (case a_isint => k_is)
    (case l_isint => k_is)
    (case c_isint => k_is)
    (case k_isint => k_is)
    (case a_islist => k_is)
    (case l_islist => k_is)
    (case c_islist => k_is)
    (case k_islist => k_is)
    (case a_divisor => k_is)
    (case l_divisor => k_is)
    (case c_divisor => k_is)
    (case k_divisor => k_is)
    (case a_plain => k_is)
    (case l_plain => k_is)
    (case c_plain => k_is)
    (case k_plain => k_is)
    (case a_isthree => k_is)
    (case l_isthree => k_is)
    (case c_isthree => k_is)
    (case k_isthree => k_is)
    (case a_ispoint => k_is)
    (case l_ispoint => k_is)
    (case c_ispoint => k_is)
    (case k_ispoint => k_is)
    (case a_tp => k_is)
    (case l_tp => k_is)
    (case c_tp => k_is)
    (case k_tp => k_is)
    (case a_pot => k_is)
    (case l_pot => k_is)
    (case c_pot => k_is)
    (case k_pot => k_is)
    (case a_draw => k_is)
    (case l_draw => k_is)
    (case c_draw => k_is)
    (case k_draw => k_is)
    (case a_pick => k_is)
    (case l_pick => k_is)
    (case c_pick => k_is)
    (case k_pick => k_is)
    (case a_common => k_is)
    (case l_common => k_is)
    (case c_common => k_is)
    (case k_common => k_is)
    (case a_told => k_is)
    (case l_told => k_is)
    (case c_told => k_is)
    (case k_told => k_is)
    (case a_cross => k_is)
    (case l_cross => k_is)
    (case c_cross => k_is)
    (case k_cross => k_is)
    (case a_point => k_is)
    (case l_point => k_is)
    (case c_point => k_is)
    (case k_point => k_is)
    (case a_given => k_is)
    (case l_given => k_is)
    (case c_given => k_is)
    (case k_given => k_is)
    (case a_great => k_is)
    (case l_great => k_is)
    (case c_great => k_is)
    (case k_great => k_is)
    (case a_one => k_is)
    (case l_one => k_is)
    (case c_one => k_is)
    (case k_one => k_is)
    (case a_two => k_is)
    (case l_two => k_is)
    (case c_two => k_is)
    (case k_two => k_is)
    (case a_right => k_is)
    (case l_right => k_is)
    (case c_right => k_is)
    (case k_right => k_is)
    (case a_law => k_is)
    (case l_law => k_is)
    (case c_law => k_is)
    (case k_law => k_is)
    (case a_S => k_is)
    (case a_init => k_is)
    (case i_init => k_is)
    (case l_init => k_is)
    (case c_init => k_is)
    (case k_init => k_is)
    (case a_pts => k_is)
    (case i_pts => k_is)
    (case l_pts => k_is)
    (case c_pts => k_is)
    (case k_pts => k_is)
    (case a_pl => k_is)
    (case i_pl => k_is)
    (case l_pl => k_is)
    (case c_pl => k_is)
    (case k_pl => k_is)
    (case pg_S => k_is)
    (case hd_S => k_is)
    (case po_S => k_is)
    (case sa_S => k_is)
    (case mk_S => k_is)
    (case kc_S => k_is)
    (case n_S_points => k_is)
    (case v_most => k_is)
    (case v_gcd => k_is)
    (case z_isinstance => k_is)
    (case z_int => k_is)
    (case z_bool => k_is)
    (case z_list => k_is)
    (case z_tuple => k_is)
    (case z_len => k_is)
    (case z_all => k_is)
    (case z_any => k_is)
    (case z_abs => k_is)
    (case z_max => k_is)
    (case z_min => k_is)
    (case z_divmod => k_is)
    (case z_range => k_is)
    (case z_repr => k_is)
    (case z_enumerate => k_is)

