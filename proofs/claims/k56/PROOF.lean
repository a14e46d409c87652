import PyProof.Rows.All
import Wide.All
import OpenK.AllK
import Wide.FinOn
import HandS.ForMost
import HandS.Deep
import HandS.Gcd
import HandS.IsInst
import HandS.Wide
import HandS.WideBits
import HandS.FStrTup
import HandS.Walk
import KE.GoesEnum
import KE.GoesMore
import KE.GoesZip
import HandS.Iter
import KE.KUnpack
import HandS.Style
import HandS.ExcInit
import HandS.ExcField
import HandS.Zip
import HandS.MakeKw
import PySem.Challenge.RW_pointrows_k56_whole_boxes_and_mirrors
set_option Elab.async false
set_option linter.all false
set_option maxRecDepth 100000
set_option maxHeartbeats 4000000
namespace G0
open PySem PySem.Spec PyProof.Rows L2
/-! A def's promise where no repr is under way (the around's guards are empty): repr of data is then known. -/
structure FnG (P : Program) (w : World) (K : PySem.W.Frag) (mg : Str → Option Value) (base : Heap) (k : Nat) (f : Addr) (fd : FuncData) (ps : List Str) (sp : Sp) : Prop where
  len : ∀ vs H Q E, sp vs H Q E → vs.length = ps.length
  run : ∀ (A : Around) (outer : List Env) (s : Shared) (H : Hp) (args : Args) (us : List Value) (vs : List V) (Q : VK) (E : XK), A.guards = some [] → Room k A →
    Env0 P w K mg base A outer s H → BindsTo s fd args (ps.zip us) → Vals vs us → sp vs H Q E → codeAny (model P w) A (.call (.ref f) args) (CR CX0 outer P w H s Q E) s
theorem FnG.ofOk {P : Program} {w : World} {K : PySem.W.Frag} {mg : Str → Option Value} {base : Heap} {k : Nat} {f : Addr} {fd : FuncData} {ps : List Str} {sp : Sp} (F : FnOk P w K mg base CX0 k f fd ps sp) : FnG P w K mg base k f fd ps sp :=
  ⟨F.len, fun A outer s H args us vs Q E _ hr he hb hv hs => F.run A outer s H args us vs Q E hr he hb hv hs⟩
theorem FnG.mono {P : Program} {w : World} {K : PySem.W.Frag} {mg : Str → Option Value} {base : Heap} {j k : Nat} {f : Addr} {fd : FuncData} {ps : List Str} {sp : Sp} (F : FnG P w K mg base j f fd ps sp) (h : j ≤ k) : FnG P w K mg base k f fd ps sp :=
  ⟨F.len, fun A outer s H args us vs Q E hg hr => F.run A outer s H args us vs Q E hg (hr.mono h)⟩

section
variable {X : Cx} {k : Nat} {f : Addr} {fd : FuncData} {ps : List Str} {sp : Sp} {dvs : List V} {ds : List Value} {E : XK} {x : Str} {p pos : Pos} {e : Expr} {es : List Expr} {t : TA}
theorem run_g {pn : List (Addr × Obj)} {σ : L2.St} {H : Hp} {s : Shared} {Q : VK} {us : List Value} {vs : List V} (F : FnG X.prog X.w X.K X.mg X.base k f fd ps sp) (gd : X.A.guards = some []) (room : Room k X.A) (bn : Binds X.K fd ps ds) (dv : Vals dvs ds)
    (J : Inv X pn σ H s) (rv : Vals vs us) (want : sp (vs ++ dvs) H Q E) : wpAny (model X.prog X.w) X.A (call (.ref f) us) (EP X pn σ Q) X.xe s := by
  have rv2 := rv.append dv
  have ln : (us ++ ds).length = ps.length := rv2.length.symm.trans (F.len _ _ _ _ want)
  refine wpAny_call (codeAny_mono (F.run X.A X.stack s H ⟨us, []⟩ (us ++ ds) (vs ++ dvs) Q E gd room J.env0 (bn s us J.kIn ln) rv2 want) fun res s2 got => ?_)
  match res, got with
  | .error _, got => exact got.elim
  | .ok (.ret _), got => exact J.after got
  | .ok .next, got => exact got.elim
  | .ok .brk, got => exact got.elim
  | .ok .cont, got => exact got.elim
theorem pe_callG (F : FnG X.prog X.w X.K X.mg X.base k f fd ps sp) (gd : X.A.guards = some []) (room : Room k X.A) (gl : Gl X x) (at_ : X.mg x = some (.ref f)) (kp : PySem.W.keepIn X.K (.ref f) = true) (bn : Binds X.K fd ps ds) (dv : Vals dvs ds)
    (pa : PA X (e :: es) t) (hdb : (x == ("__debug__" : Str)) = false := by decide) (he : starEach (e :: es) X.env = (false, eval e X.env) :: starEach es X.env := by rfl) (hpl : (backTo pos (starEach es X.env)).any (·.1) = false := by rfl) :
    PE X (.Call (.Name x p) (e :: es) [] pos) (tCall sp dvs E t) := by
  constructor
  intro pn s σ H Q J want
  apply wpAny_Call_Name_kw
  refine ld_glob J gl at_ ?_ hdb
  refine PySem.W.callWith_K (h₀ := X.base) J.ok.mod.kin kp ?_ he hpl
  refine thn (pa.run pos pn s σ H _ J want) ?_
  rintro us s1 ⟨vs, H1, J1, rv, q⟩
  exact ⟨J1.kIn, run_g F gd room bn dv J1 rv q⟩
end

/-- a def's body, the guards empty -/
theorem _root_.L2.Fun.okG {P : Program} {w : World} {K : PySem.W.Frag} {mg : Str → Option Value} {base : Heap} {x qual : Str} {st : Stmt} {f : Addr} {fd : FuncData} {N ps : List Str} {k : Nat} {sp : Sp} (F : Fun K x qual st f fd) (S : FnScope N ps (defScope st))
    (ln : ∀ vs H Q E, sp vs H Q E → vs.length = ps.length)
    (body : ∀ (cdv : Value) (A : Around) (outer : List Env) (s : Shared) (H : Hp) (vs : List V) (Q : VK) (E : XK), (A.deeper (envOfC qual (defScope st) s.heap.objs.size f cdv)).guards = some [] → Room k (A.deeper (envOfC qual (defScope st) s.heap.objs.size f cdv)) → sp vs H Q E →
      ∃ t, PSs (cxOf CX0 P w K mg base N qual (defScope st) f cdv A outer s H E).nox (defBody st) t ∧ t { nx := fun _ H' => Q .non H', rt := Q } (start N vs) H) : FnG P w K mg base (k + 1) f fd ps sp := by
  obtain ⟨oc, od, kV, doc, pm, an, cdv, ct, osl, rfl, look, code⟩ := F.ex
  constructor
  · exact ln
  intro A outer s H args us vs Q E gd room e0 bn rv want
  have ln1 := ln _ _ _ _ want
  have kin : K.In s.heap := e0.mod.kin.keeps fun b o q => (e0.bs b o q).1
  have nolim : s.heap.NoLimit := e0.mod.nolimit.keeps fun b o q => (e0.bs b o q).1
  have kinds : ∀ y ∈ ps.zip us, (defScope st).names.lookup y.1 = some .local ∨ ((defScope st).names.lookup y.1 = some .cell ∧ ((cellsFrom (s.heap.objs.size + 1) (defScope st).names []).lookup y.1).isSome = true) := by
    rintro ⟨n, v⟩ mem
    rcases S.par n (List.of_mem_zip mem).1 with here | here
    · exact .inl here
    · exact .inr ⟨here, PySem.W.cellsFrom_some _ _ _ (.inl here)⟩
  refine codeAny_call_function room.depth (kin _ _ look) rfl S.co S.gen rfl (PySem.W.codeRec_of kin code) (bn _ _ _ _ ?_)
  refine wpAny_newFunctionEnv_cells S.kind kinds fun env he s1 into => ?_
  cases he
  refine ⟨nolim.keeps into.toInCall.keep, codeAny_func ?_⟩
  obtain ⟨t, ht, run⟩ := body cdv A outer s H vs Q E gd (room.deeper _) want
  have J : Inv (cxOf CX0 P w K mg base N qual (defScope st) f cdv A outer s H E) [] (start N vs) H s1 := inv_start S room.hd e0 ln1 rv into
  refine wpAny_mono (ht.nox.run [] s1 (start N vs) H _ J run) (fun fl s2 got => ?_) fun _ _ got => got
  match fl, got with
  | .ret u, ⟨v, σ2, H2, J2, rv2, q⟩ => exact ⟨v, H2, J2.os, J2.bare, J2.base, J2.hok, rv2, q⟩
  | .next, ⟨σ2, H2, J2, q⟩ => exact ⟨.non, H2, J2.os, J2.bare, J2.base, J2.hok, rfl, q⟩
  | .brk, ⟨_, _, _, q⟩ => exact q.elim
  | .cont, ⟨_, _, _, q⟩ => exact q.elim

/-! ### repr of data -/
def rRepr (K : PySem.W.Frag) : List V → Hp → VK → Prop := fun xs H Q => ∃ (x : V) (d : PyData), xs = [x] ∧ Dp K H x d ∧ d.showable = true ∧ d.hasDict = false ∧ d.depth ≤ 16 ∧ d.shown.length ≤ sizeLine ∧ Q (.str d.shown) H
theorem cr_repr {X : Cx} (gd : X.A.guards = some []) (hu : X.A.units + 64 < cLine) : CallR X (.builtin "repr") (fun xs H Q => ∃ (a : Addr) (d : PyData), xs = [.ref a] ∧ Dp X.K H (.ref a) d ∧ d.showable = true ∧ d.hasDict = false ∧ d.depth ≤ 16 ∧ d.shown.length ≤ sizeLine ∧ Q (.str d.shown) H) := by
  intro pn s σ H xs us Q J rv h
  obtain ⟨a, d, rfl, dp, sh, nd, dep, z, q⟩ := h
  obtain ⟨u, rfl, ru⟩ := vals1 rv
  cases ru
  obtain ⟨as, rd⟩ := Dp.reads J d _ _ dp rfl
  refine repr_of_reads' rd sh (fun e => ?_) gd (by omega) (fun _ _ e => e) (fun h2 u2 tk keep => ?_) z
  · rw [nd] at e
    cases e
  · exact ⟨.str d.shown, H, J.kept keep, ⟨_, rfl⟩, q⟩
end G0

namespace G0
open PySem PySem.Spec PyProof.Rows L2
/-- the law is called where no repr is under way -/
theorem call_top {P : Program} {w : World} {K : PySem.W.Frag} {mg mb : Str → Option Value} {k : Nat} {fa a : Addr} {fd : FuncData} {x : Str} {sp : Sp} {s1 : Shared} {vs : List Value} {ns : List Int}
    (kin : K.In s1.heap) (hns : s1.heap.Ns mainGlobals mg) (hb : s1.heap.Ns builtinsNs mb) (hbb : ∀ x : Str, x ≠ "__name__" → mb x = bootBuiltins x) (lim : s1.heap.NoLimit) (gens : s1.gens = #[])
    (ha : s1.heap.get? a = some { cls := .type "list", data := .seq vs.toArray }) (hi : IntsAre vs ns) (hl : ns.length ≤ sizeLine) (room : Room k callerA)
    (F : ∀ base : Heap, K.In base → base.Ns mainGlobals mg → FnG P w K mg base k fa fd [x] sp) (bind : ∀ (s : Shared) (u : Value), BindsTo s fd ⟨[u], []⟩ [(x, u)])
    (want : ∀ H : Hp, Only H → SqL K H a (ns.map V.int) → sp [.ref a] H (fun v _ => v = .bl true) fun _ _ _ => False) :
    codeAny (model P w) callerA (.call (.ref fa) ⟨[.ref a], []⟩) (fun r s2 => r = .ok (.ret (.bool true)) ∧ OldK s1.heap s2.heap ∧ s2.os = s1.os ∧ AllBare s2.gens) s1 := by
  have vv := vals_ints hi
  have lv := hi.length
  -- H tracks nothing, or the script alone
  have main : ∀ H : Hp, Only H → SqL K H a (ns.map V.int) → HOk P w H s1.heap → (∀ b, H b ≠ none → b = a ∧ K.lookup a = none) →
      codeAny (model P w) callerA (.call (.ref fa) ⟨[.ref a], []⟩) (fun r s2 => r = .ok (.ret (.bool true)) ∧ OldK s1.heap s2.heap ∧ s2.os = s1.os ∧ AllBare s2.gens) s1 := by
    intro H only sq hok just
    have free : ∀ {b : Addr} {ob : Obj} {es : Array DictEntry} {ep : Nat}, s1.heap.get? b = some ob → ob.data = .dict es ep → H b = none := by
      intro b ob es ep e1 e2
      refine Classical.byContradiction fun no => ?_
      obtain rfl := (just b no).1
      rw [ha] at e1
      cases e1
      cases (show Data.seq vs.toArray _ = Data.dict es ep from e2)
    have ns_of : ∀ {b : Addr} {m : Str → Option Value}, s1.heap.Ns b m → (hidT s1.heap H).Ns b m := by
      rintro b m ⟨ob, es, ep, e1, e2, rest⟩
      exact ⟨ob, es, ep, hidT_get e1 (free e1 e2), e2, rest⟩
    have kinH : K.In (hidT s1.heap H) := by
      intro b ob e1
      refine hidT_get (kin b ob e1) (Classical.byContradiction fun no => ?_)
      obtain ⟨rfl, z⟩ := just b no
      rw [z] at e1
      cases e1
    have limH : (hidT s1.heap H).NoLimit := by
      obtain ⟨mc, l1, l2⟩ := lim
      exact ⟨mc, ns_of l1, l2⟩
    have env : Env0 P w K mg (hidT s1.heap H) callerA [] s1 H := by
      refine ⟨rfl, ⟨kinH, ns_of hns, ⟨mb, ns_of hb, hbb⟩, limH⟩, fun b ob e1 => of_hidT e1, Nat.le_of_eq (hidT_size _ _), trivial, ?_, hok, .of_eq gens⟩
      intro b mem
      cases (show b ∈ ([] : List Addr) from mem)
    refine codeAny_mono ((F _ kinH (ns_of hns)).run callerA [] s1 H ⟨[.ref a], []⟩ [.ref a] [.ref a] _ _ rfl room env (bind s1 (.ref a)) (.cons rfl .nil) (want H only sq)) fun res s2 got => ?_
    match res, got with
    | .error _, got => exact got.elim
    | .ok .next, got => exact got.elim
    | .ok .brk, got => exact got.elim
    | .ok .cont, got => exact got.elim
    | .ok (.ret u), ⟨v, H2, eos, bare, un, hok2, rv, (q : v = .bl true)⟩ =>
      subst q
      obtain rfl : u = Value.bool true := rv
      refine ⟨rfl, OldK.of_keep fun b ob e1 => ?_, eos, bare⟩
      rcases only b with z | ⟨oz, ys, z⟩
      · refine un.keep b ob e1 z (fun mem => ?_) (fun mem => ?_)
        · cases (show b ∈ ([] : List Addr) from mem)
        · cases mem
      · obtain ⟨i1, _⟩ := hok b _ z
        obtain ⟨i2, _⟩ := hok2 b _ (un.frzs b oz _ z)
        exact i2.trans (i1.symm.trans e1)
  cases written : K.lookup a with
  | some ob =>
    have e1 := kin a ob written
    rw [ha] at e1
    cases e1
    refine main (fun _ => none) (fun _ => .inl rfl) (.inr ⟨_, vs.toArray, _, written, rfl, rfl, rfl, ?_, ?_⟩) (fun b u e2 => ?_) (fun b no => absurd rfl no)
    · rw [List.size_toArray, lv]
      exact hl
    · simpa using vv
    · cases (show (none : Option HO) = some u from e2)
  | none =>
    let T : Hp := fun b => if b = a then some (.frz { cls := .type "list", data := .seq vs.toArray } (.lst (ns.map V.int))) else none
    have here : T a = some (.frz { cls := .type "list", data := .seq vs.toArray } (.lst (ns.map V.int))) := if_pos rfl
    have away : ∀ b, b ≠ a → T b = none := fun b ne => if_neg ne
    refine main T (fun b => ?_) (.inl (.inr ⟨_, here⟩)) (fun b u e2 => ?_) (fun b no => ?_)
    · by_cases eb : b = a
      · subst eb
        exact .inr ⟨_, _, here⟩
      · exact .inl (away b eb)
    · by_cases eb : b = a
      · subst eb
        rw [here] at e2
        cases e2
        refine ⟨ha, ?_, vs, _, vv, ha⟩
        rw [List.length_map]
        exact hl
      · rw [away b eb] at e2
        cases e2
    · refine ⟨Classical.byContradiction fun ne => no (away b ne), written⟩
/-- what k_head leaves, by such a promise -/
theorem walk_G {l : PySem.W.OpenLaw} {n k : Nat} {q : Program} {loose : List Str} {XP : (Str → Option Value) → Heap → Prop} {YP : World → Heap → Prop} {d : DefRec} {K : Params → PySem.W.Frag} {sp : PySem.W.Frag → Sp} {x : Str}
    (most : l.most = some n) (fits : n ≤ sizeLine) (nodf : d.params.defaults = []) (room : Room k callerA) (hY : ∀ (w : World) (h : Heap), YP w h → (K w.params).In h)
    (F : ∀ (w : World) (mg : Str → Option Value) (fa : Addr) (h : Heap), (K w.params).In h → h.Ns mainGlobals mg → mg d.name = some (.ref fa) →
      ∃ fd : FuncData, (∀ (s : Shared) (u : Value), BindsTo s fd ⟨[u], []⟩ [(x, u)]) ∧ ∀ base : Heap, (K w.params).In base → base.Ns mainGlobals mg → FnG l.prog w (K w.params) mg base k fa fd [x] (sp (K w.params)))
    (want : ∀ (w : World) (H : Hp) (a : Addr) (ns : List Int), ns.length ≤ n → Only H → SqL (K w.params) H a (ns.map V.int) → sp (K w.params) [.ref a] H (fun v _ => v = .bl true) fun _ _ _ => False) :
    PySem.W.WalkO q loose XP YP l.row.toRowW d [] (fun f vs => PySem.call f vs) := by
  refine Att.attach_call most nodf ?_
  intro w s0 s1 mg mb fa o pm cd doc a vs ns G Y ho hd hcd hmg hobj iv len gens
  obtain ⟨fd, bn, hF⟩ := F w mg fa _ (hY w _ Y) G.T.g hmg
  exact call_top (hY w _ Y) G.T.g G.T.b G.T.builtins G.T.nolimit gens hobj iv (Nat.le_trans len fits) room hF bn fun H only sq => want w H a ns len only sq
end G0

namespace G0
open PySem PySem.Spec PyProof.Rows L2
/-! ### calls whose last arguments are all given by name, in the parameters' sequence -/
structure KB (fd : FuncData) (ps ks : List Str) (n : Nat) : Prop where
  to : ∀ us ws : List Value, us.length = n → ws.length = ks.length → bindArgs fd ⟨us, ks.zip ws⟩ = pure (ps.zip (us ++ ws))
theorem kb_of {K : PySem.W.Frag} {x qual : Str} {st : Stmt} {f : Addr} {fd : FuncData} {ps ks : List Str} {n : Nat} (F : Fun K x qual st f fd)
    (h : ∀ (kV doc pm : Value) (an : Option Addr) (cdv ct : Value) (us ws : List Value), us.length = n → ws.length = ks.length → bindArgs (PySem.W.fnOf x qual (defArgs st) (defBody st) (defScope st) .none kV doc pm an cdv ct) ⟨us, ks.zip ws⟩ = pure (ps.zip (us ++ ws))) : KB fd ps ks n := by
  obtain ⟨oc, od, kV, doc, pm, an, cdv, ct, osl, rfl, _, _⟩ := F.ex
  exact ⟨h kV doc pm an cdv ct⟩
section
variable {X : Cx} {k n : Nat} {f C : Addr} {fd : FuncData} {ps ks : List Str} {sp : Sp} {E : XK} {x m : Str} {p pos apos : Pos} {e o : Expr} {kws : List Keyword} {ta : TE} {tk : TA}
theorem run_kb {pn : List (Addr × Obj)} {σ : L2.St} {H : Hp} {s : Shared} {Q : VK} {us ws : List Value} {vs zs : List V} (F : FnOk X.prog X.w X.K X.mg X.base CX0 k f fd ps sp) (room : Room k X.A) (bn : KB fd ps ks n)
    (J : Inv X pn σ H s) (rv : Vals vs us) (rz : Vals zs ws) (l1 : vs.length = n) (l2 : zs.length = ks.length) (want : sp (vs ++ zs) H Q E) : wpAny (model X.prog X.w) X.A (call (.ref f) us (ks.zip ws)) (EP X pn σ Q) X.xe s := by
  refine wpAny_call (codeAny_mono (F.run X.A X.stack s H ⟨us, ks.zip ws⟩ (us ++ ws) (vs ++ zs) Q E room J.env0 (.of_eq (bn.to us ws (rv.length.symm.trans l1) (rz.length.symm.trans l2))) (rv.append rz) want) fun res s2 got => ?_)
  match res, got with
  | .error _, got => exact got.elim
  | .ok (.ret _), got => exact J.after got
  | .ok .next, got => exact got.elim
  | .ok .brk, got => exact got.elim
  | .ok .cont, got => exact got.elim
/-- f(k = v, ..) -/
def tCallN (sp : Sp) (n : Nat) (E : XK) (tk : TA) : TE := fun σ H Q => tk σ H fun zs H1 => zs.length = n ∧ sp zs H1 Q E
theorem pe_callN (F : FnOk X.prog X.w X.K X.mg X.base CX0 k f fd ps sp) (room : Room k X.A) (gl : Gl X x) (at_ : X.mg x = some (.ref f)) (kp : PySem.W.keepIn X.K (.ref f) = true) (bn : KB fd ps ks 0) (pk : PK X kws tk)
    (hall : (backToKw pos (keywordEach kws X.env)).all (·.1.isSome) = true := by rfl) (hks : (backToKw pos (keywordEach kws X.env)).filterMap (·.1) = ks := by rfl) (hdb : (x == ("__debug__" : Str)) = false := by decide)
    (hpl : ((backTo pos (starEach [] X.env)).any (·.1) || (backToKw pos (keywordEach kws X.env)).any (·.1.isNone)) = false := by rfl) : PE X (.Call (.Name x p) [] kws pos) (tCallN sp ks.length E tk) := by
  constructor
  intro pn s σ H Q J want
  apply wpAny_Call_Name_kw
  refine ld_glob J gl at_ ?_ hdb
  refine PySem.W.callWith_KW0 (h₀ := X.base) J.ok.mod.kin kp hall ?_ hpl
  refine thn (pk.run pos pn s σ H _ J want) ?_
  rintro ws s2 ⟨zs, H2, J2, rz, l2, q2⟩
  rw [hks]
  exact ⟨J2.kIn, run_kb (us := []) (vs := []) F room bn J2 .nil rz rfl l2 q2⟩
/-- o.m(k = v, ..) -/
def tMethN (C : Addr) (m : Str) (sp : Sp) (n : Nat) (E : XK) (ta : TE) (tk : TA) : TE := fun σ H Q => ta σ H fun x H1 => ∃ a dx fs, x = .ref a ∧ H1 a = some (.ins C dx fs) ∧ fs.lookup m = none ∧ tk σ H1 fun zs H2 => zs.length = n ∧ sp (x :: zs) H2 Q E
theorem pe_methN {pl : Sem Bool} (po : PE X o ta) (c : Cls X.K C) (hm : Meth X.K C m f) (F : FnOk X.prog X.w X.K X.mg X.base CX0 k f fd ps sp) (room : Room k X.A) (bn : KB fd ps ks 1) (pk : PK X kws tk)
    (hall : (backToKw pos (keywordEach kws X.env)).all (·.1.isSome) = true := by rfl) (hks : (backToKw pos (keywordEach kws X.env)).filterMap (·.1) = ks := by rfl)
    (hpl : ((backTo pos (starEach [] X.env)).any (·.1) || (backToKw pos (keywordEach kws X.env)).any (·.1.isNone)) = false := by rfl)
    (ht : eval (.Call (.Attribute o m apos) [] kws pos) X.env = (do
      let ov ← eval o X.env
      standAt apos.atName
      let (g, first) ← holding [ov] (getMethod ov m pl)
      callWith pos g first (backTo pos (starEach [] X.env)) (backToKw pos (keywordEach kws X.env))) := by rfl) :
    PE X (.Call (.Attribute o m apos) [] kws pos) (tMethN C m sp ks.length E ta tk) := by
  constructor
  intro pn s σ H Q J want
  refine PySem.W.methodCall_KW (pl := pl) (thn (po.run pn s σ H _ J want) ?_) ht
  rintro u s1 ⟨x, H1, J1, rx, a, dx, fs, rfl, ea, l, q⟩
  obtain rfl : u = Value.ref a := rx
  refine getmeth_ok J1 ea c hm l ?_
  refine PySem.W.callWith_KW0 (first := [.ref a]) (h₀ := X.base) J1.ok.mod.kin hm.kp hall ?_ hpl
  refine thn (pk.run pos pn s1 σ H1 _ J1 q) ?_
  rintro ws s2 ⟨zs, H2, J2, rz, l2, q2⟩
  rw [hks]
  refine ⟨J2.kIn, ?_⟩
  exact run_kb (us := [.ref a]) (vs := [.ref a]) F room bn J2 (.cons rfl .nil) rz rfl l2 q2
end

/-! ### data in the heap -/
theorem same_new {H : Hp} {q : Addr} {o : HO} (h : H q = none) : Same H (upd H q o) := fun b u e => by
  rw [upd_ne (ne_of_none e h)]
  exact e
theorem same_t {K : PySem.W.Frag} {H H' : Hp} {a : Addr} {xs : List V} (e : Same H H') (h : SqT K H a xs) : SqT K H' a xs := by
  rcases h with (h | ⟨o, h⟩) | h
  · exact .inl (.inl (e _ _ h))
  · exact .inl (.inr ⟨o, e _ _ h⟩)
  · exact .inr h
/-- a list or a tuple -/
def Sq (K : PySem.W.Frag) (H : Hp) (a : Addr) (xs : List V) : Prop := SqL K H a xs ∨ SqT K H a xs
theorem Sq.same {K : PySem.W.Frag} {H H' : Hp} {a : Addr} {xs : List V} (e : Same H H') (h : Sq K H a xs) : Sq K H' a xs := h.imp e.seq (same_t e)
theorem SqT.mk {K : PySem.W.Frag} {H : Hp} {a : Addr} {xs : List V} (h : H a = some (.tup xs)) : SqT K H a xs := .inl (.inl h)
theorem SqL.mk {K : PySem.W.Frag} {H : Hp} {a : Addr} {xs : List V} (h : H a = some (.lst xs)) : SqL K H a xs := .inl (.inl h)
mutual
theorem Dp.same {K : PySem.W.Frag} {H H' : Hp} (e : Same H H') : ∀ {v : V} {d : PyData}, Dp K H v d → Dp K H' v d
  | _, _, .non => .non
  | _, _, .bl b => .bl b
  | _, _, .int i => .int i
  | _, _, .str x => .str x
  | _, _, .lst h a => .lst (e.seq h) (DpAll.same e a)
  | _, _, .tup h a => .tup (same_t e h) (DpAll.same e a)
theorem DpAll.same {K : PySem.W.Frag} {H H' : Hp} (e : Same H H') : ∀ {vs : List V} {ds : List PyData}, DpAll K H vs ds → DpAll K H' vs ds
  | _, _, .nil => .nil
  | _, _, .cons h a => .cons (Dp.same e h) (DpAll.same e a)
end
theorem dp_ints {K : PySem.W.Frag} {H : Hp} : ∀ ns : List Int, DpAll K H (ns.map V.int) (ns.map PyData.int)
  | [] => .nil
  | n :: ns => .cons (.int n) (dp_ints ns)
/-- what a list, a tuple of ints is, as data -/
abbrev dTup (ns : List Int) : PyData := .tuple (ns.map .int)
abbrev dLst (ns : List Int) : PyData := .list (ns.map .int)
theorem dp_tup {K : PySem.W.Frag} {H : Hp} {a : Addr} {ns : List Int} (h : SqT K H a (ns.map V.int)) : Dp K H (.ref a) (dTup ns) := .tup h (dp_ints ns)
theorem dp_lst {K : PySem.W.Frag} {H : Hp} {a : Addr} {ns : List Int} (h : SqL K H a (ns.map V.int)) : Dp K H (.ref a) (dLst ns) := .lst h (dp_ints ns)
theorem eqv_ints : ∀ ns ms : List Int, PyData.eqvAll (ns.map PyData.int) (ms.map PyData.int) = decide (ns = ms)
  | [], [] => by simp [PyData.eqvAll]
  | [], _ :: _ => by simp [PyData.eqvAll]
  | _ :: _, [] => by simp [PyData.eqvAll]
  | n :: ns, m :: ms => by
    have ih := eqv_ints ns ms
    simp only [List.map_cons, PyData.eqvAll, PyData.eqv, ih, List.cons.injEq, Bool.decide_and]
    congr 1
theorem eqv_tup (ns ms : List Int) : PyData.eqv (dTup ns) (dTup ms) = decide (ns = ms) := by
  simp only [PyData.eqv, eqv_ints]
end G0

namespace G0
open PySem PySem.Spec PyProof.Rows L2
/-! ### data whose text is short enough -/
mutual
def szD : PyData → Nat
  | .none => 5
  | .bool _ => 5
  | .int _ => 1930
  | .str x => (reprText x).length
  | .list xs => szAll xs + 3
  | .tuple xs => szAll xs + 3
  | .dict _ => 0
def szAll : List PyData → Nat
  | [] => 0
  | x :: xs => szD x + 2 + szAll xs
end
theorem list_text (ts : List Str) : (listText ts).length ≤ piled ts + 2 := by
  unfold listText
  rw [strLen_append]
  have e1 : ((("[" : String) : Str)).length = 1 := rfl
  have e2 : ((("]" : String) : Str)).length = 1 := rfl
  cases ts with
  | nil =>
    show (("[" : String) : Str).length + _ ≤ _
    omega
  | cons t r =>
    show (textFrom 1 ((("[" : String) : Str) ++ ((if 0 > 0 then ", " else "" : String) : Str) ++ t) r).length + _ ≤ _
    have e3 : (((if 0 > 0 then ", " else "" : String) : Str)).length = 0 := rfl
    rw [textFrom_length_pos _ _ _ Nat.one_pos, strLen_append, strLen_append, piled_cons]
    omega
mutual
theorem shown_le : ∀ d : PyData, d.showable = true → d.hasDict = false → d.shown.length ≤ szD d
  | .none, _, _ => by
    simp only [PyData.shown, szD]
    decide
  | .bool b, _, _ => by
    cases b <;> simp only [PyData.shown, szD] <;> decide
  | .int i, h, _ => by
    simp only [PyData.shown, szD]
    simp only [PyData.showable, decide_eq_true_eq] at h
    have e := int_text_length_le (k := 1920) (by decide) h
    have e2 : ((toString i : String) : Str).length = (toString i).length := PySem.ofString_length _
    omega
  | .str x, _, _ => by
    simp only [PyData.shown, szD]
    exact Nat.le_refl _
  | .list xs, h, n => by
    simp only [PyData.showable] at h
    simp only [PyData.hasDict] at n
    simp only [PyData.shown, szD]
    have e1 := list_text (PyData.shownAll xs)
    have e2 := shownAll_le xs h n
    omega
  | .tuple xs, h, n => by
    simp only [PyData.showable] at h
    simp only [PyData.hasDict] at n
    simp only [PyData.shown, szD]
    have e1 := fmt_text (PyData.shownAll xs)
    have e2 := shownAll_le xs h n
    omega
  | .dict _, _, n => by
    simp only [PyData.hasDict] at n
    cases n
theorem shownAll_le : ∀ xs : List PyData, PyData.showableAll xs = true → PyData.hasDictAll xs = false → piled (PyData.shownAll xs) ≤ szAll xs
  | [], _, _ => by
    simp only [PyData.shownAll, szAll, piled_nil]
    exact Nat.le_refl _
  | x :: xs, h, n => by
    simp only [PyData.showableAll, Bool.and_eq_true] at h
    simp only [PyData.hasDictAll, Bool.or_eq_false_iff] at n
    have e1 := shown_le x h.1 n.1
    have e2 := shownAll_le xs h.2 n.2
    simp only [PyData.shownAll, szAll, piled_cons]
    omega
end
/-- short data, no dict in it: its repr is known -/
structure Fine (d : PyData) : Prop where
  sh : d.showable = true
  nd : d.hasDict = false
  dep : d.depth ≤ 16
  sz : szD d ≤ 10000000
theorem Fine.fit {d : PyData} (h : Fine d) : d.shown.length ≤ sizeLine := by
  have e := shown_le d h.sh h.nd
  have := h.sz
  rw [sizeLine_eq]
  omega
/-- a list of fine ones, no more than 4000 of them, deep and long as told -/
structure FineAll (ds : List PyData) (dep sz : Nat) : Prop where
  sh : PyData.showableAll ds = true
  nd : PyData.hasDictAll ds = false
  dep : PyData.depthAll ds ≤ dep
  sz : szAll ds ≤ sz
theorem FineAll.nil {dep sz : Nat} : FineAll [] dep sz := ⟨by simp only [PyData.showableAll], by simp only [PyData.hasDictAll], by simp only [PyData.depthAll]; exact Nat.zero_le _, by simp only [szAll]; exact Nat.zero_le _⟩
theorem FineAll.cons {d : PyData} {ds : List PyData} {dep s1 s2 : Nat} (h1 : d.showable = true) (h2 : d.hasDict = false) (h3 : d.depth ≤ dep) (h4 : szD d ≤ s1) (h : FineAll ds dep s2) : FineAll (d :: ds) dep (s1 + 2 + s2) := by
  refine ⟨?_, ?_, ?_, ?_⟩
  · simp only [PyData.showableAll, h1, h.sh, Bool.and_self]
  · simp only [PyData.hasDictAll, h2, h.nd, Bool.or_self]
  · simp only [PyData.depthAll]
    exact Nat.max_le.mpr ⟨h3, h.dep⟩
  · simp only [szAll]
    have := h.sz
    omega
theorem small_log {i : Int} (h : i.natAbs < 2 ^ 1919) : i.natAbs.log2 < 1920 := by
  by_cases e : i.natAbs = 0
  · rw [e]
    decide
  · exact (Nat.log2_lt e).mpr (Nat.lt_trans h (by decide +kernel))
/-- ints of up to 1900 bits -/
def Sm (ns : List Int) : Prop := ∀ n ∈ ns, n.natAbs < 2 ^ 1919
theorem fine_ints : ∀ {ns : List Int}, Sm ns → FineAll (ns.map PyData.int) 0 (1932 * ns.length)
  | [], _ => .nil
  | n :: ns, h => by
    have ih := fine_ints (ns := ns) fun m hm => h m (List.mem_cons_of_mem _ hm)
    have e := FineAll.cons (d := .int n) (dep := 0) (s1 := 1930) (by simp only [PyData.showable, decide_eq_true_eq]; exact small_log (h n List.mem_cons_self)) (by simp only [PyData.hasDict]) (by simp only [PyData.depth]; exact Nat.le_refl _) (by simp only [szD]; exact Nat.le_refl _) ih
    refine ⟨e.sh, e.nd, e.dep, Nat.le_trans e.sz ?_⟩
    rw [List.length_cons]
    omega
theorem Fine.tup {ds : List PyData} {dep sz : Nat} (h : FineAll ds dep sz) (h1 : dep ≤ 15) (h2 : sz + 3 ≤ 10000000) : Fine (.tuple ds) := by
  refine ⟨by simp only [PyData.showable]; exact h.sh, by simp only [PyData.hasDict]; exact h.nd, ?_, ?_⟩
  · have := h.dep
    simp only [PyData.depth]
    omega
  · have := h.sz
    simp only [szD]
    omega
theorem Fine.lst {ds : List PyData} {dep sz : Nat} (h : FineAll ds dep sz) (h1 : dep ≤ 15) (h2 : sz + 3 ≤ 10000000) : Fine (.list ds) := by
  refine ⟨by simp only [PyData.showable]; exact h.sh, by simp only [PyData.hasDict]; exact h.nd, ?_, ?_⟩
  · have := h.dep
    simp only [PyData.depth]
    omega
  · have := h.sz
    simp only [szD]
    omega
theorem fine_tup {ns : List Int} (h : Sm ns) (l : ns.length ≤ 5000) : Fine (dTup ns) := .tup (fine_ints h) (by decide) (by omega)
theorem fine_lst {ns : List Int} (h : Sm ns) (l : ns.length ≤ 5000) : Fine (dLst ns) := .lst (fine_ints h) (by decide) (by omega)
/-- repr of fine data -/
def rReprF (K : PySem.W.Frag) : List V → Hp → VK → Prop := fun xs H Q => ∃ (a : Addr) (d : PyData), xs = [.ref a] ∧ Dp K H (.ref a) d ∧ Fine d ∧ Q (.str d.shown) H
theorem call_repr {X : Cx} (gd : X.A.guards = some []) (hu : X.A.units + 64 < cLine) : CallR X (.builtin "repr") (rReprF X.K) := by
  intro pn s σ H xs us Q J rv h
  obtain ⟨a, d, e, dp, f, q⟩ := h
  exact cr_repr gd hu pn s σ H xs us Q J rv ⟨a, d, e, dp, f.sh, f.nd, f.dep, f.fit, q⟩
end G0

namespace G0
open PySem PySem.Spec PyProof.Rows L2
/-! ### comprehensions that only add: an item x gives what F says, or nothing -/
def fm (F : V → Option V) (xs : List V) : List V := xs.filterMap F
theorem fm_succ {F : V → Option V} {xs : List V} {i : Nat} {x : V} (h : xs[i]? = some x) : fm F (xs.take (i + 1)) = fm F (xs.take i) ++ (match F x with | some y => [y] | none => []) := by
  unfold fm
  rw [List.take_add_one, h, List.filterMap_append]
  congr 1
  simp only [Option.toList]
  cases e : F x <;> simp [e]
theorem fm_len (F : V → Option V) (xs : List V) (i : Nat) : (fm F (xs.take i)).length ≤ xs.length :=
  Nat.le_trans (List.length_filterMap_le ..) (by rw [List.length_take]; exact Nat.min_le_right _ _)
section
variable {K : PySem.W.Frag} {a : Addr} {xs : List V} {g : TG} {tt : TT} {te : TE} {vs : List Nat} {σ : L2.St} {H1 : Hp} {D : Addr} {Qd : Hp → Prop}
/-- one turn, whatever follows -/
def Turn1 (g : TG) (tt : TT) (te : TE) (vs : List Nat) (σ : L2.St) (F : V → Option V) (x : V) (H : Hp) : Prop :=
  ∀ (G : V → Hp → Prop) (N : Hp → Prop), (F x = none → ∀ H', Same H H' → N H') → (∀ y, F x = some y → ∀ H', Same H H' → G y H') → g x (wipe σ vs) H fun σ2 H2 => wipe σ2 vs = wipe σ vs ∧ tt σ2 H2 fun b H3 => if b = true then te σ2 H3 G else N H3
theorem turn_fm {n : Nat} (F : V → Option V) (hn : xs.length < sizeLine) {i : Nat} {x : V} {H : Hp} {N1 : Hp → Prop} (hx : xs[i]? = some x) (hsame : Same H1 H) (hD1 : H1 D = none) (hD : H D = some (.lst (fm F (xs.take i)))) (t : Turn1 g tt te vs σ F x H)
    (nx : ∀ H', Same H1 H' → H' D = some (.lst (fm F (xs.take (i + 1)))) → N1 H') :
    g x (wipe σ vs) H fun σ2 H2 => wipe σ2 vs = wipe σ vs ∧ tt σ2 H2 fun b H3 => if b = true then te σ2 H3 fun y H4 => ∃ acc, H4 D = some (.lst acc) ∧ acc.length < sizeLine ∧ N1 (upd H4 D (.lst (acc ++ [y]))) else N1 H3 := by
  refine t _ _ (fun e H' s => ?_) (fun y e H' s => ?_)
  · refine nx H' (hsame.trans s) ?_
    rw [fm_succ hx, e, List.append_nil]
    exact s _ _ hD
  · refine ⟨_, s _ _ hD, Nat.lt_of_le_of_lt (fm_len F xs i) hn, nx _ (fun b o eb => ?_) ?_⟩
    · rw [upd_ne (ne_of_none eb hD1)]
      exact s _ _ (hsame _ _ eb)
    · rw [upd_same, fm_succ hx, e]
theorem lcL (F : V → Option V) (hl : SqL K H1 a xs) (hn : xs.length < sizeLine) (hD : H1 D = none) (t : ∀ x, x ∈ xs → ∀ H, Same H1 H → Turn1 g tt te vs σ F x H) (hd : ∀ H, Same H1 H → H D = some (.lst (fm F xs)) → Qd H) :
    ∃ W : Nat → Nat → Hp → Prop, (∃ m, W 0 m (upd H1 D (.lst []))) ∧ ∀ i m H, W i m H →
      ((Itl K a).stop i H ∧ Qd H) ∨ ((Itl K a).go i H ∧ ∃ Nx : Hp → Prop, (∀ H', Nx H' → ∃ m', m' < m ∧ W (i + 1) m' H') ∧ ∀ x H', (Itl K a).yld i H x H' → g x (wipe σ vs) H' fun σ2 H2 => wipe σ2 vs = wipe σ vs ∧ tt σ2 H2 fun b H3 =>
        if b = true then te σ2 H3 fun y H4 => ∃ acc, H4 D = some (.lst acc) ∧ acc.length < sizeLine ∧ Nx (upd H4 D (.lst (acc ++ [y]))) else Nx H3) :=
  lc_list (xs := xs) (fun i H => Same H1 H ∧ H D = some (.lst (fm F (xs.take i)))) ⟨same_new hD, upd_same⟩ (fun _ _ _ h => h.1.seq hl)
    (fun i x H hx h => turn_fm (n := 0) F hn hx h.1 hD h.2 (t x (List.mem_of_getElem? hx) H h.1) fun H' s d => ⟨s, d⟩) (fun H h => hd H h.1 (by rw [h.2, List.take_length]))
theorem lcT (F : V → Option V) (hl : SqT K H1 a xs) (hn : xs.length < sizeLine) (hD : H1 D = none) (t : ∀ x, x ∈ xs → ∀ H, Same H1 H → Turn1 g tt te vs σ F x H) (hd : ∀ H, Same H1 H → H D = some (.lst (fm F xs)) → Qd H) :
    ∃ W : Nat → Nat → Hp → Prop, (∃ m, W 0 m (upd H1 D (.lst []))) ∧ ∀ i m H, W i m H →
      ((Itt K a).stop i H ∧ Qd H) ∨ ((Itt K a).go i H ∧ ∃ Nx : Hp → Prop, (∀ H', Nx H' → ∃ m', m' < m ∧ W (i + 1) m' H') ∧ ∀ x H', (Itt K a).yld i H x H' → g x (wipe σ vs) H' fun σ2 H2 => wipe σ2 vs = wipe σ vs ∧ tt σ2 H2 fun b H3 =>
        if b = true then te σ2 H3 fun y H4 => ∃ acc, H4 D = some (.lst acc) ∧ acc.length < sizeLine ∧ Nx (upd H4 D (.lst (acc ++ [y]))) else Nx H3) :=
  lc_tup (xs := xs) (fun i H => Same H1 H ∧ H D = some (.lst (fm F (xs.take i)))) ⟨same_new hD, upd_same⟩ (fun _ _ _ h => same_t h.1 hl)
    (fun i x H hx h => turn_fm (n := 0) F hn hx h.1 hD h.2 (t x (List.mem_of_getElem? hx) H h.1) fun H' s d => ⟨s, d⟩) (fun H h => hd H h.1 (by rw [h.2, List.take_length]))
end
theorem fm_map (f : V → V) : ∀ xs : List V, fm (fun x => some (f x)) xs = xs.map f
  | [] => rfl
  | x :: xs => by
    show f x :: fm _ xs = f x :: xs.map f
    rw [fm_map f xs]
/-- types of what stands in lists and tuples -/
theorem ty_l {K : PySem.W.Frag} {H : Hp} {a : Addr} {xs : List V} (h : SqL K H a xs) : TyX K H (.ref a) (.type "list") := by
  rcases h with (h | ⟨o, h⟩) | h
  · exact .base (.lst h)
  · exact .base (.frz h)
  · obtain ⟨o, its, n, hk, hc, _⟩ := h
    exact .kList hk hc
theorem ty_t {K : PySem.W.Frag} {H : Hp} {a : Addr} {xs : List V} (h : SqT K H a xs) : TyX K H (.ref a) (.type "tuple") := by
  rcases h with (h | ⟨o, h⟩) | h
  · exact .base (.tup h)
  · exact .fTuple h
  · obtain ⟨o, its, n, hk, hc, _⟩ := h
    exact .kTuple hk hc
end G0

namespace G0
open PySem PySem.Spec PyProof.Rows L2
/-! ### any(xs), xs ints in a list or a tuple -/
theorem truths {prog : Program} {w : World} {A : Around} : ∀ {ns : List Int} {its : List Value}, Vals (ns.map V.int) its → TruthOf prog w A (fun i v => its.toArray[i]? = some v) (fun i => ns.getD i 0 != 0) := by
  intro ns its rv i v s Q E hv hq
  have hv' : its[i]? = some v := by simpa using hv
  have look : ∀ {ms : List Int} {us : List Value} {j : Nat}, Vals (ms.map V.int) us → us[j]? = some v → ∃ n t, ms[j]? = some n ∧ v = .int n t := by
    intro ms
    induction ms with
    | nil =>
      intro us j r h
      cases r
      cases h
    | cons m ms ih =>
      intro us j r h
      cases r with
      | cons r1 r2 =>
        cases j with
        | zero =>
          obtain ⟨t, rfl⟩ := r1
          cases h
          exact ⟨m, t, rfl, rfl⟩
        | succ j => exact ih r2 h
  obtain ⟨n, t, hn, rfl⟩ := look rv hv'
  have hg : ns.getD i 0 = n := by
    rw [List.getD_eq_getElem?_getD, hn]
    rfl
  have hq2 : Q (ns.getD i 0 != 0) s := hq
  rw [hg] at hq2
  exact PyProof.Rows.truthy_int hq2
theorem any_ints : ∀ ns : List Int, ((List.range ns.length).any fun i => ns.getD i 0 != 0) = ns.any fun n => n != 0
  | [] => rfl
  | n :: ns => by
    rw [List.length_cons, List.range_succ_eq_map, List.any_cons, List.any_map, List.any_cons, ← any_ints ns]
    all_goals rfl
section
variable {X : Cx}
def rAnyI (K : PySem.W.Frag) : List V → Hp → VK → Prop := fun vs H Q => ∃ (a : Addr) (ns : List Int), vs = [V.ref a] ∧ Sq K H a (ns.map V.int) ∧ Q (.bl (ns.any fun n => n != 0)) H
theorem cr_anyI (calm : X.calm = true) : CallR X (.builtin "any") (rAnyI X.K) := by
  intro pn s σ H vs us Q J r h
  obtain ⟨a, ns, rfl, hs, q⟩ := h
  rw [Vals.ref1 r]
  rcases hs with hs | hs
  · obtain ⟨its, rv, hl, _⟩ := J.list hs
    have lv := rv.length
    refine call_any_walk (iter_any hl.isList fun s2 e2 st hne => ?_)
    subst e2
    refine ⟨_, _, _, _, _, _, _, rfl, Walks.list (A := X.A.in1) (J.ok.hd calm) _ a hne its.toArray, st, truths rv, fun h2 tk hk => ?_⟩
    refine ⟨.bl _, H, J.kept fun b o eo => hk b o (fun mem => ?_) (Heap.get?_push_of_some _ eo), ?_, q⟩
    · rcases List.mem_cons.mp mem with e1 | mem
      · exact absurd (e1 ▸ Heap.lt_size eo) (Nat.lt_irrefl _)
      · cases mem
    · rw [List.size_toArray, ← lv, List.length_map, any_ints]
      rfl
  · obtain ⟨its, rv, hl, _⟩ := J.tuple hs
    have lv := rv.length
    obtain ⟨o1, ho1, hc1, n1, hd1⟩ := hl
    have hT : s.heap.IsTuple a its.toArray := ⟨o1, ho1, hc1, n1, hd1⟩
    have hlt : a < s.heap.objs.size := Heap.lt_size ho1
    refine call_any_walk (wpAny_pyIter_tuple hT ?_)
    refine ⟨_, _, _, _, _, _, _, rfl, Walks.tuple (A := X.A.in1) (J.ok.hd calm) _ a (Nat.ne_of_lt hlt) its.toArray, ⟨⟨_, Heap.get?_push_size _ rfl, rfl, rfl⟩, hT.push _⟩, truths rv, fun h2 tk hk => ?_⟩
    refine ⟨.bl _, H, J.kept fun b o eo => hk b o (fun mem => ?_) (Heap.get?_push_of_some _ eo), ?_, q⟩
    · rcases List.mem_cons.mp mem with e1 | mem
      · exact absurd (e1 ▸ Heap.lt_size eo) (Nat.lt_irrefl _)
      · cases mem
    · rw [List.size_toArray, ← lv, List.length_map, any_ints]
      rfl
end
end G0

namespace G0
open PySem PySem.Spec PyProof.Rows L2
/-! ### walks over a list (true) or a tuple (false): enumerate, zip of two, of three -/
def SqK (b : Bool) (K : PySem.W.Frag) (H : Hp) (a : Addr) (xs : List V) : Prop := match b with | true => SqL K H a xs | false => SqT K H a xs
theorem Sq.kind {K : PySem.W.Frag} {H : Hp} {a : Addr} {xs : List V} (h : Sq K H a xs) : ∃ b, SqK b K H a xs := h.elim (fun h => ⟨true, h⟩) (fun h => ⟨false, h⟩)
theorem SqK.sq {b : Bool} {K : PySem.W.Frag} {H : Hp} {a : Addr} {xs : List V} (h : SqK b K H a xs) : Sq K H a xs := by
  cases b with
  | true => exact .inl h
  | false => exact .inr h
theorem SqK.same {b : Bool} {K : PySem.W.Frag} {H H' : Hp} {a : Addr} {xs : List V} (e : Same H H') (h : SqK b K H a xs) : SqK b K H' a xs := by
  cases b with
  | true => exact e.seq h
  | false => exact same_t e h
def IterK (b : Bool) (h : Heap) (it a : Addr) (i : Nat) : Prop := match b with | true => h.IsListIter it a i | false => h.IsTupleIter it a i
def IsK (b : Bool) (h : Heap) (a : Addr) (items : Array Value) : Prop := match b with | true => h.IsList a items | false => h.IsTuple a items
def iterO (b : Bool) (a : Addr) : Obj := match b with
  | true => { cls := .type "list_iterator", data := .fields #[.ref a, .int 0 0] }
  | false => { cls := .type "tuple_iterator", data := .fields #[.ref a, .int 0 0] }
theorem draw_K {prog : Program} {w : World} {A : Around} (calm : A.handled = none) (b : Bool) (it a : Addr) (ne : a ≠ it) (items : Array Value) :
    Draws prog w A it [it, a] items.size (fun i v => items[i]? = some v) (fun i h => IterK b h it a i ∧ IsK b h a items) := by
  cases b with
  | true => exact Draws.list calm it a ne items
  | false => exact Draws.tuple calm it a ne items
theorem begin_K (b : Bool) (a : Addr) (items : Array Value) : Begins (.ref a) (iterO b a) fun h => IsK b h a items := by
  cases b with
  | true => exact begins_list a items
  | false => exact begins_tuple a items
theorem iter_K {b : Bool} {h : Heap} {it a : Addr} (e : h.get? it = some (iterO b a)) : IterK b h it a 0 := by
  cases b with
  | true => exact ⟨_, e, rfl, rfl⟩
  | false => exact ⟨_, e, rfl, rfl⟩
theorem IterK.obj {b : Bool} {h : Heap} {it a : Addr} {i : Nat} (e : IterK b h it a i) : ∃ o, h.get? it = some o ∧ ∀ v, o.data ≠ .cell v := by
  cases b with
  | true =>
    obtain ⟨o, h1, _, h3⟩ := (show h.IsListIter it a i from e)
    exact ⟨o, h1, fun v q => by rw [h3] at q; cases q⟩
  | false =>
    obtain ⟨o, h1, _, h3⟩ := (show h.IsTupleIter it a i from e)
    exact ⟨o, h1, fun v q => by rw [h3] at q; cases q⟩
theorem IterK.keep {b : Bool} {h h' : Heap} {it a : Addr} {i : Nat} (e : IterK b h it a i) (k : ∀ o, h.get? it = some o → h'.get? it = some o) : IterK b h' it a i := by
  cases b with
  | true =>
    obtain ⟨o, h1, h2, h3⟩ := (show h.IsListIter it a i from e)
    exact ⟨o, k o h1, h2, h3⟩
  | false =>
    obtain ⟨o, h1, h2, h3⟩ := (show h.IsTupleIter it a i from e)
    exact ⟨o, k o h1, h2, h3⟩
section
variable {X : Cx} {pins : List (Addr × Obj)} {σ : L2.St} {H : Hp} {s : Shared}
theorem seq_K {b : Bool} {a : Addr} {xs : List V} (J : Inv X pins σ H s) (h : SqK b X.K H a xs) : ∃ its : List Value, Vals xs its ∧ IsK b s.heap a its.toArray ∧ a < s.heap.objs.size := by
  cases b with
  | true =>
    obtain ⟨its, rv, pl, _⟩ := J.list h
    obtain ⟨o, h1, h2⟩ := pl.isList
    exact ⟨its, rv, pl.isList, Heap.lt_size h1⟩
  | false =>
    obtain ⟨its, rv, ⟨o, h1, h2, n, h3⟩, _⟩ := J.tuple h
    exact ⟨its, rv, ⟨o, h1, h2, n, h3⟩, Heap.lt_size h1⟩
theorem inj_K {b : Bool} {a : Addr} {xs ys : List V} (J : Inv X pins σ H s) (h1 : SqK b X.K H a xs) (h2 : SqK b X.K H a ys) : xs = ys := by
  cases b with
  | true => exact J.list_inj h1 h2
  | false => exact J.tuple_inj h1 h2
/-- the i-th item of what stands at a -/
theorem item_K {b : Bool} {a : Addr} {xs : List V} {its : List Value} {i : Nat} {u : Value} {x : V} (rv : Vals xs its) (hu : its.toArray[i]? = some u) (hx : xs[i]? = some x) : RelV x u := by
  obtain ⟨u', hu', ru⟩ := rv.get hx
  have : its[i]? = some u := by simpa using hu
  rw [this] at hu'
  cases hu'
  exact ru
end
/-- enumerate -/
def ItE (b : Bool) (K : PySem.W.Frag) (a : Addr) : It :=
  ⟨fun i H => ∃ (xs : List V) (x : V), SqK b K H a xs ∧ xs[i]? = some x, fun i H v H' => ∃ T x, v = .ref T ∧ H T = none ∧ H' = upd H T (.tup [.int (i : Nat), x]) ∧ ∀ xs, SqK b K H a xs → xs[i]? = some x, fun i H => ∃ xs : List V, SqK b K H a xs ∧ xs.length = i⟩
theorem turn_E {P : Program} {w : World} {K : PySem.W.Frag} {elts : List Expr} {kk : Nat} {tpos : Pos} (b : Bool) (a e it : Addr) (hae : a ≠ e) (hai : a ≠ it) (hei : e ≠ it) :
    Turn P w K (.Tuple elts kk tpos) (ItE b K a) [e, it] e (fun i h => (∃ old, IsEnum h e it ((i : Nat) : Int) old) ∧ IterK b h it a i) where
  mem := by simp
  obj := fun i h st c mem => by
    obtain ⟨⟨old, he⟩, hi⟩ := st
    rcases List.mem_cons.mp mem with q | mem
    · rw [q]
      exact ⟨_, he, fun v z => nomatch z⟩
    · rw [List.mem_singleton.mp mem]
      exact hi.obj
  keep := fun i h h' st k => by
    obtain ⟨⟨old, he⟩, hi⟩ := st
    exact ⟨⟨old, k e (by simp) _ he⟩, hi.keep (k it (by simp))⟩
  item := by
    rintro X rfl rfl rfl hc i pins s σ H E J hf ⟨⟨old, he⟩, hit⟩ ⟨xs, x, hq, hx⟩
    obtain ⟨its, rv, isK, alt⟩ := seq_K J hq
    have elt : e < s.heap.objs.size := Heap.lt_size he
    have ilt : it < s.heap.objs.size := by
      obtain ⟨_, q, _⟩ := hit.obj
      exact Heap.lt_size q
    have len := rv.length
    have ib : i < its.toArray.size := by
      have := (List.getElem?_eq_some_iff.mp hx).1
      simp
      omega
    refine wpAny_pyNext_enum_itemD (draw_K (A := X.A.in1) (J.ok.hd hc) b it a hai its.toArray) he ⟨hit, isK⟩ ib hei (by simp [hei, hae.symm]) fun u h2 tk hu out st2 hT hsz kept => ?_
    refine ⟨_, rfl, wpAny_letOwnedTupleGo_enum (s := { s with heap := h2, toks := tk + 1 }) out fun h3 he3 but => ?_⟩
    have hT3 : h3.get? s.heap.objs.size = some { cls := .type "tuple", data := .seq #[.int i tk, u] } := (but.2 _ (Nat.ne_of_gt elt)).trans hT
    have ru : RelV x u := item_K (b := b) (a := a) rv hu hx
    have fresh : ObjOk X.prog X.w (upd H s.heap.objs.size (.tup [.int (i : Nat), x])) h3 s.heap.objs.size (.tup [.int (i : Nat), x]) :=
      ⟨by show 2 ≤ sizeLine; decide, [.int i tk, u], .cons ⟨_, rfl⟩ (.cons ru .nil), ⟨_, hT3, rfl, _, rfl⟩⟩
    have J3 : Inv X pins σ (upd H s.heap.objs.size (.tup [.int (i : Nat), x])) { s with heap := h3, toks := tk + 1 } :=
      J.turnedNew (ch := [e, it]) (fun c o no q => (but.2 c (fun z => no (by simp [z]))).trans (kept c o (fun z => no (by simp [z])) (fun z => no (by simp [z])) q)) hf (Nat.le_refl _) fresh
    refine ⟨.ref s.heap.objs.size, _, J3, rfl, ⟨_, x, rfl, J.hok.fresh (Nat.le_refl _), rfl, fun ys hy => by rw [inj_K J hy hq]; exact hx⟩, ⟨⟨u, ?_⟩, st2.1.keep fun o q => (but.2 it hei.symm).trans q⟩, fun c mem => ?_⟩
    · have e1 : ((i + 1 : Nat) : Int) = (i : Int) + 1 := by omega
      rw [e1]
      exact he3
    · have lt : c < s.heap.objs.size := by
        rcases List.mem_cons.mp mem with q | mem2
        · rw [q]
          exact elt
        · rw [List.mem_singleton.mp mem2]
          exact ilt
      rw [upd_ne (Nat.ne_of_lt lt)]
      exact (hf c mem).1
  done := by
    rintro X rfl rfl rfl hc i pins s σ H E J hf ⟨⟨old, he⟩, hit⟩ ⟨xs, hq, rfl⟩
    obtain ⟨its, rv, isK, alt⟩ := seq_K J hq
    have len := rv.length
    have es : its.toArray.size = xs.length := by
      rw [List.size_toArray]
      omega
    refine wpAny_pyNext_enum_endD (draw_K (A := X.A.in1) (J.ok.hd hc) b it a hai its.toArray) he (by rw [es]; exact ⟨hit, isK⟩) fun h2 but => ⟨rfl, ?_⟩
    obtain ⟨f0, f1, f2, f3, f4, f5⟩ := hf it (by simp)
    exact J.turned (t' := s.toks) (fun c o no q => but c o no q) f0 f1 f3 f4 f5
  self := fun A i s Q E st h => by
    obtain ⟨⟨_, he⟩, _⟩ := st
    exact wpAny_pyIter_enum he h
theorem enum_new_T {t : Addr} {items : Array Value} : Meets (Builtin.«enumerate.__new__» ⟨[.type "enumerate", .ref t], []⟩) (fun _ R s => s.heap.IsTuple t items ∧
      R (.ok (.ret (.ref (s.heap.push (iterO false t)).objs.size))) { s with heap := (s.heap.push (iterO false t)).push { cls := .type "enumerate", data := .fields #[.none, .bool false, .ref s.heap.objs.size, rawInt 0, .none, .none] } }) := by
  refine .of_wp ?_
  rintro prog w A R ⟨hp, gs, dr, tk, os⟩ ⟨isT, want⟩
  have sub := sub_enumerate
  have it1 : ∀ {A' : Around} {E : Value → Shared → Prop} {Q : Value → Shared → Prop}, Q (.ref hp.objs.size) ⟨hp.push (iterO false t), gs, dr, tk, os⟩ → wpAny (model prog w) A' (pyIter (.ref t)) Q E ⟨hp, gs, dr, tk, os⟩ :=
    fun q => wpAny_pyIter_tuple isT q
  wp_walk using it1
  apply wpAny_stack_any
  intro st
  apply wpAny_pure
  split
  · rename_i c _ _ _ _ _
    cases (c == Value.type "enumerate")
    · wp_walk using it1
      exact ⟨_, rfl, want⟩
    · wp_walk using it1
      exact ⟨_, rfl, want⟩
  · wp_walk using it1
    exact ⟨_, rfl, want⟩
theorem called_enum {b : Bool} {a : Addr} {items : Array Value} {prog : Program} {w : World} {A : Around} {E : Value → Shared → Prop} {s : Shared} {Q : Value → Shared → Prop} (h1 : IsK b s.heap a items)
    (k : ∀ h2, IsEnum h2 (s.heap.objs.size + 1) s.heap.objs.size 0 .none → IterK b h2 s.heap.objs.size a 0 → h2.objs.size = s.heap.objs.size + 2 → (∀ c o, s.heap.get? c = some o → h2.get? c = some o) → Q (.ref (s.heap.objs.size + 1)) { s with heap := h2 }) :
    wpAny (model prog w) A (call (.type "enumerate") [.ref a]) Q E s := by
  cases b with
  | true => exact call_enumerate_list h1 fun h2 x1 x2 x3 x4 => k h2 x1 x2 x3 x4
  | false =>
    refine callType_new F.called_enumerate (by decide) (F.typeCall_enumerate_1 _) (F.newCall_enumerate_1 _) (fun ob => F.args_object_init_2 ob _) F.entry_enumerate_new enum_new_T ⟨h1, ?_⟩
    have z1 : (s.heap.push (iterO false a)).objs.size = s.heap.objs.size + 1 := Heap.size_push ..
    show _ ∧ _
    rw [z1]
    have gE : IsEnum ((s.heap.push (iterO false a)).push { cls := .type "enumerate", data := .fields #[.none, .bool false, .ref s.heap.objs.size, rawInt 0, .none, .none] }) (s.heap.objs.size + 1) s.heap.objs.size 0 .none := by
      have top1 := Heap.get?_push_size (s.heap.push (iterO false a)) (o := { cls := .type "enumerate", data := .fields #[.none, .bool false, .ref s.heap.objs.size, rawInt 0, .none, .none] }) rfl
      rw [z1] at top1
      exact top1
    refine ⟨⟨_, gE, rfl⟩, k _ gE ?_ ?_ ?_⟩
    · exact iter_K (b := false) (Heap.get?_push_of_some _ (Heap.get?_push_size _ rfl))
    · rw [Heap.size_push, z1]
    · intro c o q
      exact Heap.get?_push_of_some _ (Heap.get?_push_of_some _ q)
/-- enumerate(e) of a list or a tuple -/
def iE (b : Bool) (K : PySem.W.Frag) (ta : TA) : TI := fun σ H R => ta σ H fun vs H1 => ∃ a xs, vs = [.ref a] ∧ SqK b K H1 a xs ∧ R (ItE b K a) H1
theorem pi_E (b : Bool) {X : Cx} {e : Expr} {ta : TA} {p pos tpos : Pos} {elts : List Expr} {kk : Nat} (gl : Gl X "enumerate") (no : X.mg "enumerate" = none) (pa : PA X [e] ta) (st : starEach [e] X.env = [(false, eval e X.env)] := by rfl) :
    PI X (.Tuple elts kk tpos) (.Call (.Name "enumerate" p) [e] [] pos) (iE b X.K ta) := by
  constructor
  intro pins s σ H R J want
  refine Call_ (ld_blt J gl no boot_enumerate (PyProof.Rows.callWith_type1 (thn (pa.run pos pins s σ H _ J want) ?_) st rfl))
  rintro us s1 ⟨vs, H1, J1, r1, a, xs, rfl, hq, q⟩
  obtain ⟨u, rfl, ru⟩ := vals1 r1
  cases ru
  obtain ⟨its, rv, isK, alt⟩ := seq_K J1 hq
  refine called_enum isK fun h2 he hit _ kept => wpAny_pyIter_enum he ?_
  have J2 : Inv X pins σ H1 { s1 with heap := h2 } := J1.kept (t' := s1.toks) kept
  refine ⟨s1.heap.objs.size + 1, [s1.heap.objs.size + 1, s1.heap.objs.size], _, _, H1, rfl, J2, turn_E b a (s1.heap.objs.size + 1) s1.heap.objs.size (Nat.ne_of_lt (Nat.lt_succ_of_lt alt)) (Nat.ne_of_lt alt) (Nat.succ_ne_self _), ⟨⟨.none, he⟩, hit⟩, fun c mem => ?_, q⟩
  have le : s1.heap.objs.size ≤ c := by
    rcases List.mem_cons.mp mem with z | mem2
    · rw [z]
      exact Nat.le_succ _
    · rw [List.mem_singleton.mp mem2]
      exact Nat.le_refl _
  exact J1.fpOk le (J1.hok.fresh le)
theorem walk_E {b : Bool} {K : PySem.W.Frag} {a : Addr} {xs : List V} : Walk (ItE b K a) xs.length (fun H => SqK b K H a xs) (YPair (fun i => some (.int (i : Nat))) (fun i => xs[i]?)) := by
  refine ⟨fun i _ hi q => ⟨xs, xs[i], q, by simp [hi]⟩, fun _ q => ⟨xs, q, rfl⟩, fun i H v H' _ q y => ?_⟩
  obtain ⟨T, x, h1, h2, h3, h4⟩ := y
  exact ⟨T, .int (i : Nat), x, h1, h2, h3, rfl, h4 xs q⟩
end G0

namespace G0
open PySem PySem.Spec PyProof.Rows L2
/-! ### zip of two of one length, each a list (true) or a tuple (false) -/
def ItZ (b1 b2 : Bool) (K : PySem.W.Frag) (a1 a2 : Addr) : It :=
  ⟨fun i H => ∃ (xs ys : List V) (x y : V), SqK b1 K H a1 xs ∧ SqK b2 K H a2 ys ∧ xs[i]? = some x ∧ ys[i]? = some y,
    fun i H v H' => ∃ T x y, v = .ref T ∧ H T = none ∧ H' = upd H T (.tup [x, y]) ∧ (∀ xs, SqK b1 K H a1 xs → xs[i]? = some x) ∧ ∀ ys, SqK b2 K H a2 ys → ys[i]? = some y,
    fun i H => ∃ xs ys : List V, SqK b1 K H a1 xs ∧ SqK b2 K H a2 ys ∧ xs.length = i ∧ ys.length = i⟩
theorem turn_Z {P : Program} {w : World} {K : PySem.W.Frag} {elts : List Expr} {kk : Nat} {tpos : Pos} (b1 b2 : Bool) {a1 a2 z TI TO i1 i2 : Addr} (S : ZipSep2 z TI TO i1 i2 [i1, a1] [i2, a2]) (n1 : a1 ≠ i1) (n2 : a2 ≠ i2) :
    Turn P w K (.Tuple elts kk tpos) (ItZ b1 b2 K a1 a2) [z, TI, TO, i1, i2] z (fun i h => IsZip h z TI TO .none ∧ IsTupOf2 h TI (.ref i1) (.ref i2) ∧ (∃ x y, IsTupOf2 h TO x y) ∧ IterK b1 h i1 a1 i ∧ IterK b2 h i2 a2 i) where
  mem := by simp
  obj := fun i h st c hc => by
    obtain ⟨hz, hTI, ⟨x, y, hTO⟩, h1, h2⟩ := st
    have e' : c = z ∨ c = TI ∨ c = TO ∨ c = i1 ∨ c = i2 := by simpa using hc
    rcases e' with q | q | q | q | q
    · rw [q]; exact ⟨_, hz, fun v q => nomatch q⟩
    · rw [q]; exact ⟨_, hTI, fun v q => nomatch q⟩
    · rw [q]; exact ⟨_, hTO, fun v q => nomatch q⟩
    · rw [q]; exact h1.obj
    · rw [q]; exact h2.obj
  keep := fun i h h' st k => by
    obtain ⟨hz, hTI, ⟨x, y, hTO⟩, h1, h2⟩ := st
    exact ⟨k z (by simp) _ hz, k TI (by simp) _ hTI, ⟨x, y, k TO (by simp) _ hTO⟩, h1.keep (k i1 (by simp)), h2.keep (k i2 (by simp))⟩
  item := by
    rintro X rfl rfl rfl hc i pins s σ H E J hf ⟨hz, hTI, ⟨x0, y0, hTO⟩, h1, h2⟩ ⟨xs, ys, x, y, hqx, hqy, hx, hy⟩
    obtain ⟨its, rv, isK, alt⟩ := seq_K J hqx
    obtain ⟨its2, rv2, isK2, alt2⟩ := seq_K J hqy
    have len := rv.length
    have len2 := rv2.length
    have ib : i < its.toArray.size := by
      have := (List.getElem?_eq_some_iff.mp hx).1
      simp
      omega
    have ib2 : i < its2.toArray.size := by
      have := (List.getElem?_eq_some_iff.mp hy).1
      simp
      omega
    have hzl : z < s.heap.objs.size := Heap.lt_size hz
    refine wpAny_pyNext_zipD2_item S (draw_K (A := X.A.in1) (J.ok.hd hc) b1 i1 a1 n1 its.toArray) (draw_K (A := X.A.in1) (J.ok.hd hc) b2 i2 a2 n2 its2.toArray) hz hTI hTO ⟨h1, isK⟩ ⟨h2, isK2⟩ ib ib2 fun u u2 h' tk hu hu2 z' TO' st1 st2 hT hsz hk => ?_
    refine ⟨_, rfl, wpAny_letOwnedTupleGo_zip (s := { s with heap := h', toks := tk }) z' fun h'' z'' sb => ?_⟩
    have hT2 : h''.get? s.heap.objs.size = some { cls := .type "tuple", data := .seq #[u, u2] } := (sb.2 _ (Nat.ne_of_gt hzl)).trans hT
    have ru : RelV x u := item_K (b := b1) (a := a1) rv hu hx
    have ru2 : RelV y u2 := item_K (b := b2) (a := a2) rv2 hu2 hy
    have new : ObjOk X.prog X.w (upd H s.heap.objs.size (.tup [x, y])) h'' s.heap.objs.size (.tup [x, y]) :=
      ⟨by show 2 ≤ sizeLine; decide, [u, u2], .cons ru (.cons ru2 .nil), ⟨_, hT2, rfl, _, rfl⟩⟩
    have J1 : Inv X pins σ (upd H s.heap.objs.size (.tup [x, y])) { s with heap := h'', toks := tk } :=
      J.turnedNew (t' := tk) (ch := [z, TI, TO, i1, i2]) (fun c o hb q => (sb.2 c (fun q' => hb (by simp [q']))).trans (hk c o (fun q' => hb (by simp [q'])) (fun q' => hb (by simp [q'])) (fun q' => hb (by simp [q'])) (fun q' => hb (by simp [q'])) q)) hf (Nat.le_refl _) new
    refine ⟨.ref s.heap.objs.size, _, J1, rfl, ⟨_, x, y, rfl, J.hok.fresh (Nat.le_refl _), rfl, fun l hl => by rw [inj_K J hl hqx]; exact hx, fun l hl => by rw [inj_K J hl hqy]; exact hy⟩, ⟨z'', ?_, ⟨u, u2, ?_⟩, ?_, ?_⟩, fun c hcm => ?_⟩
    · exact (sb.2 _ S.TIz).trans (hk _ _ S.TIz S.TITO S.TIi1 S.TIi2 hTI)
    · exact (sb.2 _ S.TOz).trans TO'
    · exact st1.1.keep fun o q => (sb.2 _ S.zi1.symm).trans q
    · exact st2.1.keep fun o q => (sb.2 _ S.zi2.symm).trans q
    · have hlt : c < s.heap.objs.size := by
        have e' : c = z ∨ c = TI ∨ c = TO ∨ c = i1 ∨ c = i2 := by simpa using hcm
        rcases e' with q | q | q | q | q
        · rw [q]; exact hzl
        · rw [q]; exact Heap.lt_size hTI
        · rw [q]; exact Heap.lt_size hTO
        · rw [q]; obtain ⟨_, e1, _⟩ := h1.obj; exact Heap.lt_size e1
        · rw [q]; obtain ⟨_, e2, _⟩ := h2.obj; exact Heap.lt_size e2
      rw [upd_ne (Nat.ne_of_lt hlt)]
      exact (hf c hcm).1
  done := by
    rintro X rfl rfl rfl hc i pins s σ H E J hf ⟨hz, hTI, ⟨x0, y0, hTO⟩, h1, h2⟩ ⟨xs, ys, hqx, hqy, l1, l2⟩
    obtain ⟨its, rv, isK, alt⟩ := seq_K J hqx
    obtain ⟨its2, rv2, isK2, alt2⟩ := seq_K J hqy
    have len := rv.length
    have len2 := rv2.length
    have es : its.toArray.size = i := by
      rw [List.size_toArray]
      omega
    have es2 : its2.toArray.size = i := by
      rw [List.size_toArray]
      omega
    exact wpAny_pyNext_zipD2_end S (draw_K (A := X.A.in1) (J.ok.hd hc) b1 i1 a1 n1 its.toArray) (draw_K (A := X.A.in1) (J.ok.hd hc) b2 i2 a2 n2 its2.toArray) hz hTI hTO ⟨h1, isK⟩ ⟨h2, isK2⟩ (Nat.le_of_eq es.symm) (Nat.le_of_eq es2.symm) (.inl es.symm) fun h' tk hk => ⟨rfl, J.turnedL (t' := tk) (ch := [z, TI, TO, i1, i2]) (fun c o hb q =>
      hk c o (fun q' => hb (by simp [q'])) (fun q' => hb (by simp [q'])) (fun q' => hb (by simp [q'])) (fun q' => hb (by simp [q'])) q) hf⟩
  self := fun A i s Q E st h => wpAny_pyIter_zip st.1 h
theorem not_two {x a b : Addr} (h1 : x ≠ a) (h2 : x ≠ b) : x ∉ [a, b] := by
  intro h
  rcases List.mem_cons.mp h with q | q
  · exact h1 q
  · exact h2 (List.mem_singleton.mp q)
theorem up {n k : Nat} (h : 0 < k) : ((n + k : Nat) : Addr) ≠ (n : Addr) := fun e => Nat.ne_of_gt (Nat.lt_add_of_pos_right h) e
theorem upa {n k a : Nat} (h : a < n) : ((n + k : Nat) : Addr) ≠ (a : Addr) := fun e => Nat.ne_of_gt (Nat.lt_of_lt_of_le h (Nat.le_add_right n k)) e
theorem ups {n j k : Nat} (h : j ≠ k) : ((n + j : Nat) : Addr) ≠ ((n + k : Nat) : Addr) := fun e => h (Nat.add_left_cancel e)
theorem zip_sep {n a1 a2 : Nat} (la : a1 < n) (lb : a2 < n) : ZipSep2 (n + 4) (n + 2) (n + 3) n (n + 1) [n, a1] [n + 1, a2] where
  TIz := ups (by decide)
  TOz := ups (by decide)
  TITO := ups (by decide)
  TIi1 := up (by decide)
  mem1 := by simp
  zf1 := not_two (up (by decide)) (upa la)
  Tf1 := not_two (up (by decide)) (upa la)
  TIi2 := ups (by decide)
  mem2 := by simp
  zf2 := not_two (ups (by decide)) (upa lb)
  Tf2 := not_two (ups (by decide)) (upa lb)
  sep1_2 := not_two (up (by decide)).symm (fun e => Nat.ne_of_gt lb e)
  sep2_1 := not_two (up (by decide)) (upa la)
def iZ (b1 b2 : Bool) (K : PySem.W.Frag) (ta : TA) : TI := fun σ H R => ta σ H fun vs H1 => ∃ a1 a2 xs ys, vs = [.ref a1, .ref a2] ∧ SqK b1 K H1 a1 xs ∧ SqK b2 K H1 a2 ys ∧ R (ItZ b1 b2 K a1 a2) H1
theorem pi_Z (b1 b2 : Bool) {X : Cx} {e e2 : Expr} {ta : TA} {p pos tpos : Pos} {elts : List Expr} {kk : Nat} (hg : Gl X "zip") (hm : X.mg "zip" = none) (ha : PA X [e, e2] ta)
    (hs : starEach [e, e2] X.env = (false, eval e X.env) :: starEach [e2] X.env := by rfl) (hpl : (backTo pos (starEach [e2] X.env)).any (·.1) = false := by rfl) :
    PI X (.Tuple elts kk tpos) (.Call (.Name "zip" p) [e, e2] [] pos) (iZ b1 b2 X.K ta) := by
  refine ⟨fun pins s σ H R I h => ?_⟩
  refine Call_ (ld_blt I hg hm PyProof.Rows.boot_zip (PyProof.Rows.callWith_type1 (thn (ha.run pos pins s σ H _ I h) fun us s1 ⟨vs, H1, I1, r1, q1⟩ => ?_) hs hpl))
  obtain ⟨a1, a2, xs, ys, rfl, hqx, hqy, q⟩ := q1
  cases r1 with
  | cons r rr =>
    cases rr with
    | cons r' rr =>
      cases rr
      cases r
      cases r'
      obtain ⟨its, rv, isK, la⟩ := seq_K I1 hqx
      obtain ⟨its2, rv2, isK2, lb⟩ := seq_K I1 hqy
      refine zip_begins2 (begin_K b1 a1 its.toArray) (begin_K b2 a2 its2.toArray) isK isK2 fun h' hz hTI hTO h1 h2 hsz hk => wpAny_pyIter_zip hz ?_
      have I2 : Inv X pins σ H1 { s1 with heap := h' } := I1.kept (t' := s1.toks) hk
      have S : ZipSep2 (s1.heap.objs.size + 4) (s1.heap.objs.size + 2) (s1.heap.objs.size + 3) s1.heap.objs.size (s1.heap.objs.size + 1) [s1.heap.objs.size, a1] [s1.heap.objs.size + 1, a2] := by
        exact zip_sep la lb
      refine ⟨s1.heap.objs.size + 4, [s1.heap.objs.size + 4, s1.heap.objs.size + 2, s1.heap.objs.size + 3, s1.heap.objs.size, s1.heap.objs.size + 1], _, _, H1, rfl, I2, turn_Z b1 b2 S (Nat.ne_of_lt la) (Nat.ne_of_lt (Nat.lt_succ_of_lt lb)), ⟨hz, hTI, ⟨_, _, hTO⟩, iter_K h1, iter_K h2⟩, fun c hcm => ?_, q⟩
      have e' : c = s1.heap.objs.size + 4 ∨ c = s1.heap.objs.size + 2 ∨ c = s1.heap.objs.size + 3 ∨ c = s1.heap.objs.size ∨ c = s1.heap.objs.size + 1 := by simpa using hcm
      have hle : s1.heap.objs.size ≤ c := by
        rcases e' with q | q | q | q | q
        · rw [q]; exact Nat.le_add_right _ _
        · rw [q]; exact Nat.le_add_right _ _
        · rw [q]; exact Nat.le_add_right _ _
        · rw [q]; exact Nat.le_refl _
        · rw [q]; exact Nat.le_add_right _ _
      exact I1.fpOk hle (I1.hok.fresh hle)
theorem walk_Z {b1 b2 : Bool} {K : PySem.W.Frag} {a1 a2 : Addr} {xs ys : List V} {n : Nat} (l1 : xs.length = n) (l2 : ys.length = n) : Walk (ItZ b1 b2 K a1 a2) n (fun H => SqK b1 K H a1 xs ∧ SqK b2 K H a2 ys) (YPair (fun i => xs[i]?) (fun i => ys[i]?)) := by
  subst l1
  refine ⟨fun i _ hi q => ?_, fun _ q => ⟨xs, ys, q.1, q.2, rfl, l2⟩, fun i H v H' _ q y => ?_⟩
  · exact ⟨xs, ys, xs[i], ys[i]'(by omega), q.1, q.2, by simp [hi], by simp⟩
  · obtain ⟨T, x, z, h1, h2, h3, h4, h5⟩ := y
    exact ⟨T, x, z, h1, h2, h3, h4 xs q.1, h5 ys q.2⟩
end G0

namespace G0
open PySem PySem.Spec PyProof.Rows L2
section
variable {X : Cx} {pos : Pos}
/-- (a, b, ..) = a list (true) or a tuple (false) of that length -/
def gSeq (k : Bool) (K : PySem.W.Frag) (n : Nat) (t : TGs) : TG := fun v σ H Q => ∃ a xs, v = .ref a ∧ SqK k K H a xs ∧ xs.length = n ∧ t xs σ H Q
theorem pg_seq (kd : Bool) {es : List Expr} {k : Nat} {t : TGs} {n : Nat} (hc : X.calm = true) (h : PGs X es t)
    (hn : (assignEach es X.env).length = n := by rfl) (hst : (assignEach es X.env).findIdx? (·.1) = none := by rfl) : PG X (.Tuple es k pos) (gSeq kd X.K n t) := by
  refine ⟨fun pins s σ H v u Q I r hw => ?_⟩
  obtain ⟨a, xs, rfl, hq, hl, hw⟩ := hw
  cases r
  cases kd with
  | false =>
    obtain ⟨its, rv, ht, hz⟩ := I.tuple hq
    refine assign_Tuple_tuple (I.ok.hd hc) ht (by simp [hn, ← hl, rv.length]) hst fun h' hx => ?_
    have I1 : Inv X pins σ H { s with heap := h' } := I.kept (t' := s.toks) fun b o e => hx b o (Nat.ne_of_lt (Heap.lt_size e)) e
    exact h.run pins _ σ H xs _ Q I1 (by simpa using rv) hw
  | true =>
    obtain ⟨its, rv, isK, la⟩ := seq_K (b := true) I hq
    rw [assign_Tuple]
    refine wpAny_bind (wpAny_standAt ?_)
    unfold unpack
    have e1 : (assignEach es X.env).length = its.toArray.size := by simp [hn, ← hl, rv.length]
    rw [e1, hst]
    refine wpAny_bind (wpAny_holding (PySem.W.kun_itemsOf (I.ok.hd hc) isK fun h' hx => ?_))
    have I1 : Inv X pins σ H { s with heap := h' } := I.kept (t' := s.toks) fun b o e => hx b o (Nat.ne_of_lt (Heap.lt_size e)) e
    exact h.run pins _ σ H xs _ Q I1 (by simpa using rv) hw
end
end G0

namespace G0
open PySem PySem.Spec PyProof.Rows L2
section
variable {K : PySem.W.Frag} {a : Addr} {xs : List V} {g : TG} {tt : TT} {te : TE} {vs : List Nat} {σ : L2.St} {H1 : Hp} {D : Addr} {Qd : Hp → Prop}
/-- a comprehension that adds F i for the i-th item -/
theorem lcI (F : Nat → V) (hl : SqL K H1 a xs) (hn : xs.length < sizeLine) (hD : H1 D = none) (t : ∀ i x, xs[i]? = some x → ∀ H, Same H1 H → ∀ (G : V → Hp → Prop) (N : Hp → Prop), (∀ H', Same H H' → G (F i) H') → g x (wipe σ vs) H fun σ2 H2 => wipe σ2 vs = wipe σ vs ∧ tt σ2 H2 fun b H3 => if b = true then te σ2 H3 G else N H3)
    (hd : ∀ H, Same H1 H → H D = some (.lst ((List.range' 0 xs.length).map F)) → Qd H) :
    ∃ W : Nat → Nat → Hp → Prop, (∃ m, W 0 m (upd H1 D (.lst []))) ∧ ∀ i m H, W i m H →
      ((Itl K a).stop i H ∧ Qd H) ∨ ((Itl K a).go i H ∧ ∃ Nx : Hp → Prop, (∀ H', Nx H' → ∃ m', m' < m ∧ W (i + 1) m' H') ∧ ∀ x H', (Itl K a).yld i H x H' → g x (wipe σ vs) H' fun σ2 H2 => wipe σ2 vs = wipe σ vs ∧ tt σ2 H2 fun b H3 =>
        if b = true then te σ2 H3 fun y H4 => ∃ acc, H4 D = some (.lst acc) ∧ acc.length < sizeLine ∧ Nx (upd H4 D (.lst (acc ++ [y]))) else Nx H3) :=
  lc_list (xs := xs) (fun i H => Same H1 H ∧ H D = some (.lst ((List.range' 0 i).map F))) ⟨same_new hD, upd_same⟩ (fun _ _ _ h => h.1.seq hl)
    (fun i x H hx h => t i x hx H h.1 _ _ fun H' s => by
      have hi := (List.getElem?_eq_some_iff.mp hx).1
      refine ⟨_, s _ _ h.2, ?_, fun b o eb => ?_, ?_⟩
      · rw [List.length_map, List.length_range']
        omega
      · rw [upd_ne (ne_of_none eb hD)]
        exact (h.1.trans s) _ _ eb
      · rw [upd_same, List.range'_concat, List.map_append]
        simp) (fun H h => hd H h.1 h.2)
/-- a comprehension over a tuple -/
theorem lcIT (F : Nat → V) (hl : SqT K H1 a xs) (hn : xs.length < sizeLine) (hD : H1 D = none) (t : ∀ i x, xs[i]? = some x → ∀ H, Same H1 H → ∀ (G : V → Hp → Prop) (N : Hp → Prop), (∀ H', Same H H' → G (F i) H') → g x (wipe σ vs) H fun σ2 H2 => wipe σ2 vs = wipe σ vs ∧ tt σ2 H2 fun b H3 => if b = true then te σ2 H3 G else N H3)
    (hd : ∀ H, Same H1 H → H D = some (.lst ((List.range' 0 xs.length).map F)) → Qd H) :
    ∃ W : Nat → Nat → Hp → Prop, (∃ m, W 0 m (upd H1 D (.lst []))) ∧ ∀ i m H, W i m H →
      ((Itt K a).stop i H ∧ Qd H) ∨ ((Itt K a).go i H ∧ ∃ Nx : Hp → Prop, (∀ H', Nx H' → ∃ m', m' < m ∧ W (i + 1) m' H') ∧ ∀ x H', (Itt K a).yld i H x H' → g x (wipe σ vs) H' fun σ2 H2 => wipe σ2 vs = wipe σ vs ∧ tt σ2 H2 fun b H3 =>
        if b = true then te σ2 H3 fun y H4 => ∃ acc, H4 D = some (.lst acc) ∧ acc.length < sizeLine ∧ Nx (upd H4 D (.lst (acc ++ [y]))) else Nx H3) :=
  lc_tup (xs := xs) (fun i H => Same H1 H ∧ H D = some (.lst ((List.range' 0 i).map F))) ⟨same_new hD, upd_same⟩ (fun _ _ _ h => same_t h.1 hl)
    (fun i x H hx h => t i x hx H h.1 _ _ fun H' s => by
      have hi := (List.getElem?_eq_some_iff.mp hx).1
      refine ⟨_, s _ _ h.2, ?_, fun b o eb => ?_, ?_⟩
      · rw [List.length_map, List.length_range']
        omega
      · rw [upd_ne (ne_of_none eb hD)]
        exact (h.1.trans s) _ _ eb
      · rw [upd_same, List.range'_concat, List.map_append]
        simp) (fun H h => hd H h.1 h.2)
end
end G0

namespace G0
open PySem PySem.Spec PyProof.Rows L2
/-- over what is a list or a tuple, as it comes -/
def iAny (K : PySem.W.Frag) (tl : TE) : TI := fun σ H R => iList K tl σ H R ∨ iTup K tl σ H R
theorem pi_any {X : Cx} {tg l : Expr} {tl : TE} (hl : PE X l tl) : PI X tg l (iAny X.K tl) :=
  ⟨fun pins s σ H R I h => h.elim (fun h => (pi_list hl).run pins s σ H R I h) (fun h => (pi_tup hl).run pins s σ H R I h)⟩
end G0

namespace G0
/-! ### rows that can be: step by step, and by places -/
def ffGo : Nat → Int → Int → List Int → Option Nat
  | _, _, _, [] => none
  | p, a, t, n :: ns => if p = 9 ∨ 24 < t + n ∨ ¬ ((a = (p : Int) ∧ n = (p : Int) + 1) ∨ (0 < n ∧ n ≤ a)) then some p else ffGo (p + 1) n (t + n) ns
def ff (ns : List Int) : Option Nat := ffGo 0 0 0 ns
def lastI (a : Int) (ns : List Int) : Int := ns.getLast?.getD a
theorem lastI_snoc (a n : Int) (ns : List Int) : lastI a (ns ++ [n]) = n := by simp [lastI]
theorem lastI_cons (a n : Int) (ns : List Int) : lastI a (n :: ns) = lastI n ns := by
  unfold lastI
  cases ns with
  | nil => rfl
  | cons m ns => simp [List.getLast?_cons]
theorem ffGo_app : ∀ (xs : List Int) (p : Nat) (a t : Int) (ys : List Int), ffGo p a t (xs ++ ys) = match ffGo p a t xs with | some k => some k | none => ffGo (p + xs.length) (lastI a xs) (t + xs.sum) ys
  | [], p, a, t, ys => by simp [ffGo, lastI]
  | x :: xs, p, a, t, ys => by
    have c : ∀ zs : List Int, ffGo p a t (x :: zs) = if p = 9 ∨ 24 < t + x ∨ ¬ ((a = (p : Int) ∧ x = (p : Int) + 1) ∨ (0 < x ∧ x ≤ a)) then some p else ffGo (p + 1) x (t + x) zs := fun zs => by rw [ffGo]
    rw [List.cons_append, c, c]
    by_cases q : p = 9 ∨ 24 < t + x ∨ ¬ ((a = (p : Int) ∧ x = (p : Int) + 1) ∨ (0 < x ∧ x ≤ a))
    · rw [if_pos q, if_pos q]
    · rw [if_neg q, if_neg q, ffGo_app xs, lastI_cons, List.length_cons, List.sum_cons, show p + 1 + xs.length = p + (xs.length + 1) by omega, show t + x + xs.sum = t + (x + xs.sum) by omega]
def okStep (p : Nat) (a t n : Int) : Prop := p ≠ 9 ∧ t + n ≤ 24 ∧ ((a = (p : Int) ∧ n = (p : Int) + 1) ∨ (0 < n ∧ n ≤ a))
instance (p : Nat) (a t n : Int) : Decidable (okStep p a t n) := by unfold okStep; infer_instance
theorem ff_snoc (xs : List Int) (n : Int) : ff (xs ++ [n]) = match ff xs with | some k => some k | none => if okStep xs.length (lastI 0 xs) xs.sum n then none else some xs.length := by
  unfold ff
  rw [ffGo_app]
  cases ffGo 0 0 0 xs with
  | some k => rfl
  | none =>
    show ffGo _ _ _ [n] = _
    unfold ffGo
    rw [Nat.zero_add, Int.zero_add]
    by_cases h : okStep xs.length (lastI 0 xs) xs.sum n
    · rw [if_pos h, if_neg]
      · rfl
      · intro q
        obtain ⟨h1, h2, h3⟩ := h
        rcases q with q | q | q
        · exact h1 q
        · omega
        · exact q h3
    · rw [if_neg h, if_pos]
      by_cases h1 : xs.length = 9
      · exact .inl h1
      · by_cases h2 : 24 < xs.sum + n
        · exact .inr (.inl h2)
        · exact .inr (.inr fun h3 => h ⟨h1, by omega, h3⟩)
theorem ff_take {ns : List Int} {i : Nat} {n : Int} (hn : ns[i]? = some n) (h0 : ff (ns.take i) = none) : ff (ns.take (i + 1)) = (if okStep i (lastI 0 (ns.take i)) (ns.take i).sum n then none else some i) := by
  have hi := (List.getElem?_eq_some_iff.mp hn).1
  have e : ns.take (i + 1) = ns.take i ++ [n] := by rw [List.take_add_one, hn]; rfl
  rw [e, ff_snoc, h0, List.length_take, Nat.min_eq_left (by omega)]
theorem ff_stop {ns : List Int} {i k : Nat} (h : ff (ns.take i) = some k) : ff ns = some k := by
  have e : ns = ns.take i ++ ns.drop i := (List.take_append_drop i ns).symm
  rw [e]
  unfold ff
  rw [ffGo_app]
  unfold ff at h
  rw [h]
theorem ff_pre {ns : List Int} (i : Nat) (h : ff ns = none) : ff (ns.take i) = none := by
  cases e : ff (ns.take i) with
  | none => rfl
  | some k => rw [ff_stop e] at h; cases h
/-- the places of numbers above j -/
def plcGo (j : Int) : Nat → List Int → List Nat
  | _, [] => []
  | k, n :: ns => (if j < n then [k] else []) ++ plcGo j (k + 1) ns
def plc (j : Int) (ns : List Int) : List Nat := plcGo j 0 ns
theorem plcGo_app (j : Int) : ∀ (xs : List Int) (k : Nat) (ys : List Int), plcGo j k (xs ++ ys) = plcGo j k xs ++ plcGo j (k + xs.length) ys
  | [], k, ys => by simp [plcGo]
  | x :: xs, k, ys => by
    rw [List.cons_append, plcGo, plcGo, plcGo_app j xs, List.append_assoc, List.length_cons, show k + 1 + xs.length = k + (xs.length + 1) by omega]
theorem plc_snoc (j : Int) (xs : List Int) (n : Int) : plc j (xs ++ [n]) = plc j xs ++ if j < n then [xs.length] else [] := by
  unfold plc
  rw [plcGo_app]
  simp [plcGo]
theorem plcGo_mem (j : Int) : ∀ (xs : List Int) (k i : Nat), i ∈ plcGo j k xs → k ≤ i ∧ i < k + xs.length
  | [], k, i, h => by simp [plcGo] at h
  | x :: xs, k, i, h => by
    unfold plcGo at h
    rw [List.length_cons]
    rcases List.mem_append.mp h with h | h
    · by_cases q : j < x
      · rw [if_pos q] at h
        have := List.mem_singleton.mp h
        omega
      · rw [if_neg q] at h
        cases h
    · have := plcGo_mem j xs (k + 1) i h
      omega
theorem plc_lt {j : Int} {xs : List Int} {i : Nat} (h : i ∈ plc j xs) : i < xs.length := by
  have := plcGo_mem j xs 0 i h
  omega
theorem plcGo_nil (j : Int) : ∀ (xs : List Int) (k : Nat), (∀ m ∈ xs, m ≤ j) → plcGo j k xs = []
  | [], k, h => rfl
  | x :: xs, k, h => by
    unfold plcGo
    have := h x (by simp)
    rw [if_neg (by omega), plcGo_nil j xs (k + 1) fun m hm => h m (by simp [hm])]
    rfl
theorem plcGo_ne (j : Int) : ∀ (xs : List Int) (k : Nat), (∃ m ∈ xs, j < m) → plcGo j k xs ≠ []
  | [], k, h => by simp at h
  | x :: xs, k, h => by
    unfold plcGo
    by_cases q : j < x
    · rw [if_pos q]
      simp
    · rw [if_neg q, List.nil_append]
      refine plcGo_ne j xs (k + 1) ?_
      obtain ⟨m, hm, hl⟩ := h
      rcases List.mem_cons.mp hm with rfl | hm
      · exact absurd hl q
      · exact ⟨m, hm, hl⟩
structure RowI (ns : List Int) : Prop where
  len : ns.length ≤ 9
  pos : ∀ n ∈ ns, 0 < n
  sum : ns.sum ≤ 24
  pl : ∀ j : Nat, (∃ m ∈ ns, (j : Int) < m) → plc (j : Int) ns = List.range' j (plc (j : Int) ns).length
def Can (ns : List Int) : Prop := ns ≠ [] ∧ RowI ns
theorem range_pre {A B : List Nat} {j L : Nat} (h : A ++ B = List.range' j L) : A = List.range' j A.length := by
  have e : A = (List.range' j L).take A.length := by rw [← h]; simp
  have l : A.length ≤ L := by
    have := congrArg List.length h
    simp at this
    omega
  have tr : ∀ (n s m : Nat), m ≤ n → (List.range' s n).take m = List.range' s m := by
    intro n
    induction n with
    | zero =>
      intro s m h
      rw [show m = 0 by omega]
      rfl
    | succ n ih =>
      intro s m h
      cases m with
      | zero => rfl
      | succ m => rw [List.range'_succ, List.range'_succ, List.take_succ_cons, ih _ _ (by omega)]
  exact e.trans (tr _ _ _ l)
theorem range_snoc {A : List Nat} {j p L : Nat} (h : A ++ [p] = List.range' j L) : p = j + A.length := by
  have l : L = A.length + 1 := by
    have := congrArg List.length h
    simp at this
    omega
  rw [l, List.range'_concat] at h
  have := (List.append_inj' h (by simp)).2
  simpa using this
theorem row_le {xs : List Int} (r : RowI xs) : ∀ m ∈ xs, m ≤ (xs.length : Int) := by
  intro m hm
  by_cases h : (xs.length : Int) < m
  · have e := r.pl xs.length ⟨m, hm, h⟩
    have ne : plc (xs.length : Int) xs ≠ [] := plcGo_ne _ xs 0 ⟨m, hm, h⟩
    have l : 0 < (plc (xs.length : Int) xs).length := List.length_pos_iff.mpr ne
    have mem : xs.length ∈ plc (xs.length : Int) xs := by
      rw [e, List.mem_range'_1]
      omega
    exact absurd (plc_lt mem) (by omega)
  · omega
theorem snoc_cases (xs : List Int) : xs = [] ∨ ∃ ys a, xs = ys ++ [a] := by
  rcases List.eq_nil_or_concat xs with h | ⟨ys, a, h⟩
  · exact .inl h
  · exact .inr ⟨ys, a, by simpa using h⟩
theorem row_snoc (xs : List Int) (n : Int) : RowI (xs ++ [n]) ↔ RowI xs ∧ okStep xs.length (lastI 0 xs) xs.sum n := by
  have sumE : (xs ++ [n]).sum = xs.sum + n := by simp
  have lenE : (xs ++ [n]).length = xs.length + 1 := by simp
  constructor
  · intro r
    have len := r.len
    have sm := r.sum
    rw [lenE] at len
    rw [sumE] at sm
    have n0 : 0 < n := r.pos n (by simp)
    have rx : RowI xs := by
      refine ⟨by omega, fun m hm => r.pos m (by simp [hm]), by omega, fun j hj => ?_⟩
      obtain ⟨m, hm, hl⟩ := hj
      have e := r.pl j ⟨m, by simp [hm], hl⟩
      rw [plc_snoc] at e
      exact range_pre e
    refine ⟨rx, by omega, sm, ?_⟩
    by_cases h : n ≤ lastI 0 xs
    · exact .inr ⟨n0, h⟩
    · left
      have a0 : 0 ≤ lastI 0 xs := by
        rcases snoc_cases xs with rfl | ⟨ys, a, rfl⟩
        · simp [lastI]
        · rw [lastI_snoc]
          have := rx.pos a (by simp)
          omega
      obtain ⟨j, hj⟩ := Int.eq_ofNat_of_zero_le a0
      have e := r.pl j ⟨n, by simp, by omega⟩
      rw [plc_snoc, if_pos (by omega)] at e
      have pj := range_snoc e
      have jp : j = xs.length := by
        rcases snoc_cases xs with rfl | ⟨ys, a, rfl⟩
        · simp [lastI] at hj
          simp
          omega
        · rw [lastI_snoc] at hj
          have e2 : plc (j : Int) (ys ++ [a]) = plc (j : Int) ys := by rw [plc_snoc, if_neg (by omega), List.append_nil]
          by_cases z : plc (j : Int) ys = []
          · rw [e2, z] at pj
            simp at pj
            simp
            omega
          · have e3 := range_pre e
            rw [e2] at e3 pj
            have lp : 0 < (plc (j : Int) ys).length := List.length_pos_iff.mpr z
            have mem : j + (plc (j : Int) ys).length - 1 ∈ plc (j : Int) ys := by
              rw [e3, List.mem_range'_1]
              rw [← e3]
              omega
            have := plc_lt mem
            simp at pj
            omega
      refine ⟨by omega, ?_⟩
      by_cases h2 : n = (xs.length : Int) + 1
      · exact h2
      · exfalso
        have h3 : ((xs.length + 1 : Nat) : Int) < n := by omega
        have e := r.pl (xs.length + 1) ⟨n, by simp, h3⟩
        rw [plc_snoc, if_pos h3] at e
        have := range_snoc e
        omega
  · rintro ⟨r, h9, h24, hs⟩
    have n0 : 0 < n := by
      rcases hs with ⟨_, h⟩ | ⟨h, _⟩ <;> omega
    have := r.len
    refine ⟨by rw [lenE]; omega, fun m hm => ?_, by rw [sumE]; exact h24, fun j hj => ?_⟩
    · rcases List.mem_append.mp hm with hm | hm
      · exact r.pos m hm
      · rw [List.mem_singleton.mp hm]
        exact n0
    · rw [plc_snoc]
      by_cases hn : (j : Int) < n
      · rw [if_pos hn]
        have key : plc (j : Int) xs = List.range' j (plc (j : Int) xs).length ∧ j + (plc (j : Int) xs).length = xs.length := by
          by_cases ja : (j : Int) < lastI 0 xs
          · rcases snoc_cases xs with rfl | ⟨ys, a, rfl⟩
            · simp [lastI] at ja
              omega
            · rw [lastI_snoc] at ja
              have e := r.pl j ⟨a, by simp, ja⟩
              refine ⟨e, ?_⟩
              rw [plc_snoc, if_pos ja] at e
              have := range_snoc e
              rw [plc_snoc, if_pos ja]
              simp
              omega
          · have jp : j = xs.length := by
              rcases hs with ⟨h1, h2⟩ | ⟨h1, h2⟩ <;> omega
            have z : plc (j : Int) xs = [] := plcGo_nil _ xs 0 fun m hm => by
              have := row_le r m hm
              omega
            rw [z]
            simp
            omega
        rw [List.length_append, List.length_singleton, List.range'_concat, ← key.1]
        congr 2
        omega
      · rw [if_neg hn, List.append_nil]
        refine r.pl j ?_
        obtain ⟨m, hm, hl⟩ := hj
        rcases List.mem_append.mp hm with hm | hm
        · exact ⟨m, hm, hl⟩
        · rw [List.mem_singleton.mp hm] at hl
          exact absurd hl hn
theorem row_iff (ns : List Int) : RowI ns ↔ ff ns = none := by
  have gen : ∀ (k : Nat) (ns : List Int), ns.length = k → (RowI ns ↔ ff ns = none) := by
    intro k
    induction k with
    | zero =>
      intro ns h
      obtain rfl := List.length_eq_zero_iff.mp h
      exact ⟨fun _ => rfl, fun _ => ⟨by simp, by simp, by simp, fun j hj => by simp at hj⟩⟩
    | succ k ih =>
      intro ns h
      rcases snoc_cases ns with rfl | ⟨ys, a, rfl⟩
      · cases h
      · have hl : ys.length = k := by simpa using h
        rw [row_snoc, ff_snoc, ih ys hl]
        cases ff ys with
        | some k => simp
        | none =>
          show _ ↔ (if okStep _ _ _ _ then none else some _) = none
          by_cases q : okStep ys.length (lastI 0 ys) ys.sum a
          · rw [if_pos q]
            simp [q]
          · rw [if_neg q]
            simp [q]
  exact gen _ ns rfl
theorem can_iff {ns : List Int} (h : ns ≠ []) : Can ns ↔ ff ns = none := ⟨fun c => (row_iff ns).mp c.2, fun e => ⟨h, (row_iff ns).mpr e⟩⟩
end G0

namespace G0
open PySem PySem.Spec PyProof.Rows L2
def top (i : Nat) : Stmt := PySem.Challenge.pw_pointrows_k56_whole_boxes_and_mirrors.main.body.getD i (.Pass ⟨0, 0, 0, 0⟩)
abbrev s_is_integer : Stmt := top 3
abbrev s_is_count : Stmt := top 4
abbrev s_is_list : Stmt := top 5
theorem sc_is_integer : FnScope ["value"] ["value"] (defScope s_is_integer) := ⟨rfl, rfl, rfl, by decide +kernel, rfl, by decide +kernel, by decide +kernel⟩
theorem sc_is_list : FnScope ["value"] ["value"] (defScope s_is_list) := ⟨rfl, rfl, rfl, by decide +kernel, rfl, by decide +kernel, by decide +kernel⟩
/-- a def of the top: where it stands, that its name tells it, how it binds -/
structure Df (K : PySem.W.Frag) (mg : Str → Option Value) (x : Str) (st : Stmt) (ps : List Str) (f : Addr) (fd : FuncData) : Prop where
  F : Fun K x x st f fd
  g : mg x = some (.ref f)
  b : Binds K fd ps []
theorem pdf {X : Cx} {k : Nat} {f : Addr} {fd : FuncData} {ps : List Str} {sp : Sp} {x : Str} {st : Stmt} {p pos : Pos} {e : Expr} {es : List Expr} {t : TA} (D : Df X.K X.mg x st ps f fd) (G : FnOk X.prog X.w X.K X.mg X.base CX0 k f fd ps sp) (hr : Room k X.A) (ha : PA X (e :: es) t) (hg : Gl X x := by rfl)
    (hdb : (x == ("__debug__" : Str)) = false := by decide) (he : starEach (e :: es) X.env = (false, eval e X.env) :: starEach es X.env := by rfl) (hpl : (backTo pos (starEach es X.env)).any (·.1) = false := by rfl) :
    PE X (.Call (.Name x p) (e :: es) [] pos) (tCall sp [] E0 t) := pe_call G hr hg D.g D.F.kp D.b .nil pass0 ha hdb he hpl
/-- the built-in names are the built-in ones still -/
structure Blt (mg : Str → Option Value) : Prop where
  isinstance : mg "isinstance" = none
  int : mg "int" = none
  bool : mg "bool" = none
  list : mg "list" = none
  tuple : mg "tuple" = none
  len : mg "len" = none
  all : mg "all" = none
  any : mg "any" = none
  abs : mg "abs" = none
  max : mg "max" = none
  min : mg "min" = none
  divmod : mg "divmod" = none
  range : mg "range" = none
  repr : mg "repr" = none
  enumerate : mg "enumerate" = none
  sum : mg "sum" = none
  sorted : mg "sorted" = none
  str : mg "str" = none
  dict : mg "dict" = none

section
variable {P : Program} {w : World} {K : PySem.W.Frag} {mg : Str → Option Value} {base : Heap}
theorem pty {X : Cx} {x : Str} {p : Pos} {n : String} (hm : X.mg x = none) (hv : bootBuiltins x = some (.type n)) (hg : Gl X x := by rfl) (hn : x ≠ "__name__" := by decide) (hdb : (x == ("__debug__" : Str)) = false := by decide) : PE X (.Name x p) (tC (.ty n)) :=
  pe_bltn hg hm hv (show RelV (.ty n) (.type n) from rfl) hn hdb
theorem boot_isi : bootBuiltins "isinstance" = some (.builtin "isinstance") := by decide +kernel
theorem boot_tint : bootBuiltins "int" = some (.type "int") := by decide +kernel
theorem boot_tbool : bootBuiltins "bool" = some (.type "bool") := by decide +kernel
theorem boot_tlist : bootBuiltins "list" = some (.type "list") := by decide +kernel
theorem boot_ttuple : bootBuiltins "tuple" = some (.type "tuple") := by decide +kernel
theorem boot_all : bootBuiltins "all" = some (.builtin "all") := by decide +kernel
theorem boot_any : bootBuiltins "any" = some (.builtin "any") := by decide +kernel
theorem kit_ii : PySem.W.kitOne K (.type "int") (.type "int") = some true := kit_ty (by decide +kernel)
theorem kit_ib : PySem.W.kitOne K (.type "int") (.type "bool") = some false := kit_ty (by decide +kernel)
theorem kit_ll : PySem.W.kitOne K (.type "list") (.type "list") = some true := kit_ty (by decide +kernel)
theorem kit_tl : PySem.W.kitOne K (.type "tuple") (.type "list") = some false := kit_ty (by decide +kernel)
theorem kit_tt : PySem.W.kitOne K (.type "tuple") (.type "tuple") = some true := kit_ty (by decide +kernel)


theorem boot_sum : bootBuiltins "sum" = some (.builtin "sum") := by decide +kernel
theorem boot_max : bootBuiltins "max" = some (.builtin "max") := by decide +kernel
theorem boot_min : bootBuiltins "min" = some (.builtin "min") := by decide +kernel
theorem boot_abs : bootBuiltins "abs" = some (.builtin "abs") := by decide +kernel
theorem boot_divmod : bootBuiltins "divmod" = some (.builtin "divmod") := by decide +kernel
theorem boot_repr : bootBuiltins "repr" = some (.builtin "repr") := by decide +kernel
theorem boot_sorted : bootBuiltins "sorted" = some (.builtin "sorted") := by decide +kernel
theorem boot_trange : bootBuiltins "range" = some (.type "range") := by decide +kernel
theorem boot_tstr : bootBuiltins "str" = some (.type "str") := by decide +kernel
theorem boot_tdict : bootBuiltins "dict" = some (.type "dict") := by decide +kernel
end
/-! ### any value, as far as the program looks at it -/
inductive AV where
  | int (n : Int)
  | other
  | seq (xs : List AV)
mutual
inductive AVal (K : PySem.W.Frag) (H : Hp) : V → AV → Prop where
  | int (n : Int) : AVal K H (.int n) (.int n)
  | other {v : V} {t : Value} {i b : Bool} (ty : TyX K H v t) (k1 : PySem.W.kitOne K t (.type "int") = some i) (k2 : PySem.W.kitOne K t (.type "bool") = some b) (no : (i && !b) = false) (k3 : PySem.W.kitOne K t (.type "list") = some false) (k4 : PySem.W.kitOne K t (.type "tuple") = some false) : AVal K H v .other
  | seq {a : Addr} {vs : List V} {xs : List AV} (h : Sq K H a vs) (hs : AVals K H vs xs) : AVal K H (.ref a) (.seq xs)
inductive AVals (K : PySem.W.Frag) (H : Hp) : List V → List AV → Prop where
  | nil : AVals K H [] []
  | cons {v : V} {vs : List V} {x : AV} {xs : List AV} : AVal K H v x → AVals K H vs xs → AVals K H (v :: vs) (x :: xs)
end
theorem tyof_same {K : PySem.W.Frag} {H H' : Hp} {v : V} {t : Value} (e : Same H H') (h : TyOf K H v t) : TyOf K H' v t := by
  cases h with
  | non => exact .non
  | bl b => exact .bl b
  | int n => exact .int n
  | str z => exact .str z
  | flt z => exact .flt z
  | lst q => exact .lst (e _ _ q)
  | frz q => exact .frz (e _ _ q)
  | tup q => exact .tup (e _ _ q)
  | dK q => exact .dK (e _ _ q)
  | dT q => exact .dT (e _ _ q)
  | ins q cl ha hn htk hm => exact .ins (e _ _ q) cl ha hn htk hm
theorem tyx_same {K : PySem.W.Frag} {H H' : Hp} {v : V} {t : Value} (e : Same H H') (h : TyX K H v t) : TyX K H' v t := by
  cases h with
  | base h => exact .base (tyof_same e h)
  | byt b => exact .byt b
  | set q => exact .set (e _ _ q)
  | kList q c => exact .kList q c
  | kTuple q c => exact .kTuple q c
  | kDict q c => exact .kDict q c
  | fTuple q => exact .fTuple (e _ _ q)
  | fDict q => exact .fDict (e _ _ q)
mutual
theorem AVal.same {K : PySem.W.Frag} {H H' : Hp} (e : Same H H') : ∀ {v : V} {x : AV}, AVal K H v x → AVal K H' v x
  | _, _, .int n => .int n
  | _, _, .other ty k1 k2 no k3 k4 => .other (tyx_same e ty) k1 k2 no k3 k4
  | _, _, .seq h hs => .seq (h.same e) (AVals.same e hs)
theorem AVals.same {K : PySem.W.Frag} {H H' : Hp} (e : Same H H') : ∀ {vs : List V} {xs : List AV}, AVals K H vs xs → AVals K H' vs xs
  | _, _, .nil => .nil
  | _, _, .cons h hs => .cons (AVal.same e h) (AVals.same e hs)
end
def AV.isInt : AV → Bool
  | .int _ => true
  | _ => false
def AV.isSeq : AV → Bool
  | .seq _ => true
  | _ => false
def AV.isThree : AV → Bool
  | .seq xs => decide (xs.length = 3) && xs.all AV.isInt
  | _ => false
theorem AVals.len {K : PySem.W.Frag} {H : Hp} : ∀ {vs : List V} {xs : List AV}, AVals K H vs xs → vs.length = xs.length
  | _, _, .nil => rfl
  | _, _, .cons _ h => by rw [List.length_cons, List.length_cons, AVals.len h]
theorem AVals.at {K : PySem.W.Frag} {H : Hp} : ∀ {vs : List V} {xs : List AV} {i : Nat} {v : V}, AVals K H vs xs → vs[i]? = some v → ∃ x, xs[i]? = some x ∧ AVal K H v x
  | _, _, 0, _, .cons h _, e => by
    cases e
    exact ⟨_, rfl, h⟩
  | _, _, i + 1, _, .cons _ h, e => AVals.at (i := i) h e
section
variable {P : Program} {w : World} {K : PySem.W.Frag} {mg : Str → Option Value} {base : Heap}
def sp_intA (K : PySem.W.Frag) : Sp := fun vs H Q _ => ∃ (v : V) (x : AV), vs = [v] ∧ AVal K H v x ∧ Q (.bl x.isInt) H
theorem kit_li {K : PySem.W.Frag} : PySem.W.kitOne K (.type "list") (.type "int") = some false := rfl
theorem kit_ti {K : PySem.W.Frag} : PySem.W.kitOne K (.type "tuple") (.type "int") = some false := rfl
theorem ok_intA {f : Addr} {fd : FuncData} (F : Fun K "is_integer" "is_integer" s_is_integer f fd) (B : Blt mg) : FnOk P w K mg base CX0 1 f fd ["value"] (sp_intA K) := by
  refine F.ok sc_is_integer (fun vs H Q E h => ?_) (fun cdv A outer s H vs Q E hr h => ?_)
  · obtain ⟨v, x, rfl, _⟩ := h
    rfl
  · obtain ⟨v, x, rfl, hv, q⟩ := h
    refine ⟨_, pss_one (ps_ret (pe_and (pe_callB call_isi (by rfl) B.isinstance boot_isi (pa_cons (pv 0) (pa_cons (pty B.int boot_tint) pa_nil)))
      (pe_one (pe_not (pe_callB call_isi (by rfl) B.isinstance boot_isi (pa_cons (pv 0) (pa_cons (pty B.bool boot_tbool) pa_nil))))))), ?_⟩
    cases hv with
    | int n =>
      refine ⟨_, rfl, _, _, _, _, true, rfl, .ty "int", .base (.int n), kit_ii, true, rfl, iteT ?_⟩
      exact ⟨_, rfl, _, _, _, _, false, rfl, .ty "bool", .base (.int n), kit_ib, false, rfl, q⟩
    | @other _ t i b ty k1 k2 no k3 k4 =>
      refine ⟨_, rfl, _, _, _, _, i, rfl, .ty "int", ty, k1, i, rfl, ?_⟩
      cases i with
      | false => exact iteF q
      | true =>
        refine iteT ?_
        cases b with
        | true => exact ⟨_, rfl, _, _, _, _, true, rfl, .ty "bool", ty, k2, true, rfl, q⟩
        | false => cases no
    | seq h hs =>
      rcases h with h | h
      · exact ⟨_, rfl, _, _, _, _, false, rfl, .ty "int", ty_l h, kit_li, false, rfl, iteF q⟩
      · exact ⟨_, rfl, _, _, _, _, false, rfl, .ty "int", ty_t h, kit_ti, false, rfl, iteF q⟩
def sp_listA (K : PySem.W.Frag) : Sp := fun vs H Q _ => ∃ (v : V) (x : AV), vs = [v] ∧ AVal K H v x ∧ ∀ H', Same H H' → Q (.bl x.isSeq) H'
theorem kit_il {K : PySem.W.Frag} : PySem.W.kitOne K (.type "int") (.type "list") = some false := rfl
theorem kit_it {K : PySem.W.Frag} : PySem.W.kitOne K (.type "int") (.type "tuple") = some false := rfl
theorem ok_listA {f : Addr} {fd : FuncData} (F : Fun K "is_list" "is_list" s_is_list f fd) (B : Blt mg) : FnOk P w K mg base CX0 1 f fd ["value"] (sp_listA K) := by
  refine F.ok sc_is_list (fun vs H Q E h => ?_) (fun cdv A outer s H vs Q E hr h => ?_)
  · obtain ⟨v, x, rfl, _⟩ := h
    rfl
  · obtain ⟨v, x, rfl, hv, q⟩ := h
    refine ⟨_, pss_one (ps_ret (pe_callB call_isiT (by rfl) B.isinstance boot_isi (pa_cons (pv 0) (pa_cons (pe_tup (pa_cons (pty B.list boot_tlist) (pa_cons (pty B.tuple boot_ttuple) pa_nil))) pa_nil)))), ?_⟩
    refine ⟨_, rfl, by show 2 ≤ sizeLine; decide, fun p hp => ?_⟩
    have s1 : Same H (upd H p (.tup [.ty "list", .ty "tuple"])) := same_new hp
    have q1 := q _ s1
    cases hv with
    | int n => exact ⟨_, p, _, _, _, false, rfl, upd_same, .cons (.ty "list") (.cons (.ty "tuple") .nil), .base (.int n), kitAny_cons (r := false) kit_il (fun _ => kitAny_cons kit_it (fun _ => rfl) (fun z => nomatch z)) (fun z => nomatch z), q1⟩
    | other ty k1 k2 no k3 k4 => exact ⟨_, p, _, _, _, false, rfl, upd_same, .cons (.ty "list") (.cons (.ty "tuple") .nil), tyx_same s1 ty, kitAny_cons (r := false) k3 (fun _ => kitAny_cons k4 (fun _ => rfl) (fun z => nomatch z)) (fun z => nomatch z), q1⟩
    | seq hs hq =>
      rcases hs with hs | hs
      · exact ⟨_, p, _, _, _, true, rfl, upd_same, .cons (.ty "list") (.cons (.ty "tuple") .nil), ty_l (s1.seq hs), kitAny_cons kit_ll (fun z => nomatch z) fun _ => rfl, q1⟩
      · exact ⟨_, p, _, _, _, true, rfl, upd_same, .cons (.ty "list") (.cons (.ty "tuple") .nil), ty_t (same_t s1 hs), kitAny_cons (r := true) kit_tl (fun _ => kitAny_cons kit_tt (fun z => nomatch z) fun _ => rfl) (fun z => nomatch z), q1⟩
end

section
variable {P : Program} {w : World} {K : PySem.W.Frag} {mg : Str → Option Value} {base : Heap}
theorem isiK {X : Cx} {K : PySem.W.Frag} (h : X.K = K) : CallR X (.builtin "isinstance") (rIsi K) := by
  subst h
  exact call_isi

end
end G0
namespace G0
open PySem PySem.Spec PyProof.Rows L2
abbrev s_pot : Stmt := top 40
abbrev s_draw : Stmt := top 41
theorem seq_join {ta tb : TS} {D : Ends} {σ : L2.St} {H : Hp} (S : L2.St → Hp → Prop) (h1 : ∀ N : L2.St → Hp → Prop, (∀ σ H, S σ H → N σ H) → ta { D with nx := N } σ H) (h2 : ∀ σ H, S σ H → tb D σ H) : tSeq ta tb D σ H := h1 _ h2
/-! ### a law's pot: a list of two ints, changed by each draw; D: what else is known -/
structure Wd (p : Addr) (D H : Hp) : Prop where
  s : Same D H
  n : D p = none
  pot : ∃ a b : Int, 0 ≤ a ∧ 0 ≤ b ∧ b < 4294967296 ∧ H p = some (.lst [.int a, .int b])
theorem Wd.pure {p : Addr} {D H H' : Hp} (w : Wd p D H) (e : Same H H') : Wd p D H' := by
  obtain ⟨s, n, a, b, h1, h2, h3, h4⟩ := w
  exact ⟨s.trans e, n, a, b, h1, h2, h3, e _ _ h4⟩
theorem Wd.got {p q : Addr} {D H : Hp} {o : HO} (w : Wd p D H) (h0 : D q = none) (hp : q ≠ p) (h : H q = some o) : Wd p (upd D q o) H := by
  refine ⟨fun b u e => ?_, ?_, w.pot⟩
  · by_cases eb : b = q
    · subst eb
      rw [upd_same] at e
      cases e
      exact h
    · rw [upd_ne eb] at e
      exact w.s _ _ e
  · rw [upd_ne hp.symm]
    exact w.n
theorem Wd.ne {p q : Addr} {D H : Hp} (w : Wd p D H) (h : H q = none) : q ≠ p := by
  obtain ⟨a, b, _, _, _, h4⟩ := w.pot
  exact (ne_of_none h4 h).symm
/-- a new object, made from H on -/
theorem Wd.new {p q : Addr} {D H H' : Hp} {o : HO} (w : Wd p D H) (e : Same H H') (h : H q = none) (hq : H' q = some o) : Wd p (upd D q o) H' ∧ Same D (upd D q o) ∧ (upd D q o) q = some o :=
  ⟨(w.pure e).got (w.s.free h) (w.ne h) hq, same_new (w.s.free h), upd_same⟩
theorem yes_ite {σ : L2.St} {H : Hp} {A B : Hp → Prop} (h : A H) : tYes σ H (fun b H3 => if b = true then A H3 else B H3) := iteT (B := B H) h
theorem Wd.put {p q : Addr} {D H : Hp} {o o' : HO} (w : Wd p (upd D q o) H) (h0 : D q = none) (hp : q ≠ p) : Wd p D (upd H q o') := by
  obtain ⟨s, n, a, b, h1, h2, h3, h4⟩ := w
  rw [upd_ne hp.symm] at n
  refine ⟨fun c u e => ?_, n, a, b, h1, h2, h3, ?_⟩
  · have nc := ne_of_none e h0
    rw [upd_ne nc]
    exact s _ _ (by rw [upd_ne nc]; exact e)
  · rw [upd_ne hp.symm]
    exact h4
/-- what a helper that draws hands back -/
def Gets (p : Addr) (D : Hp) (R : V → Hp → Prop) (Q : VK) : Prop := ∀ v D' H', Same D D' → Wd p D' H' → R v D' → Q v H'
theorem ne_of_none' {H : Hp} {a b : Addr} {o : HO} (h : H b = some o) (n : H a = none) : a ≠ b := fun e => by
  rw [e, h] at n
  cases n
/-- what is known, but of one thing that changes -/
def del (D : Hp) (L : Addr) : Hp := fun a => if a = L then none else D a
theorem del_at {D : Hp} {L : Addr} : del D L L = none := if_pos rfl
theorem del_ne {D : Hp} {L a : Addr} (h : a ≠ L) : del D L a = D a := if_neg h
theorem same_del {D D' : Hp} {L : Addr} (n : D L = none) (e : Same D D') : Same D (del D' L) := fun b o h => by
  rw [del_ne (ne_of_none h n)]
  exact e _ _ h
theorem Wd.del {p L : Addr} {D H : Hp} (w : Wd p D H) : Wd p (del D L) H := by
  refine ⟨fun b o e => ?_, ?_, w.pot⟩
  · by_cases eb : b = L
    · rw [eb, del_at] at e
      cases e
    · rw [del_ne eb] at e
      exact w.s _ _ e
  · by_cases eb : p = L
    · rw [eb]
      exact del_at
    · rw [del_ne eb]
      exact w.n
theorem Wd.over {p L : Addr} {D H : Hp} {o : HO} (w : Wd p D H) (n : D L = none) (hp : L ≠ p) : Wd p D (upd H L o) := by
  obtain ⟨s, n2, a, b, h1, h2, h3, h4⟩ := w
  refine ⟨fun c u e => ?_, n2, a, b, h1, h2, h3, ?_⟩
  · rw [upd_ne (ne_of_none e n)]
    exact s _ _ e
  · rw [upd_ne hp.symm]
    exact h4
/-- all that stands, but the pot -/
theorem Wd.all {p : Addr} {D H : Hp} (w : Wd p D H) : Wd p (G0.del H p) H ∧ Same D (G0.del H p) :=
  ⟨⟨fun b o e => by
      by_cases eb : b = p
      · rw [eb, del_at] at e
        cases e
      · rw [del_ne eb] at e
        exact e, del_at, w.pot⟩, same_del w.n w.s⟩
section
variable {P : Program} {w : World} {K : PySem.W.Frag} {mg : Str → Option Value} {base : Heap}
theorem if_te {ta tb : TE} {σ : L2.St} {H : Hp} {Q : V → Hp → Prop} {b : Bool} (S : V → Hp → Prop) (h1 : b = true → ∀ R : V → Hp → Prop, (∀ v H', S v H' → R v H') → ta σ H R) (h2 : b = false → ∀ R : V → Hp → Prop, (∀ v H', S v H' → R v H') → tb σ H R) (k : ∀ v H', S v H' → Q v H') :
    if b = true then ta σ H Q else tb σ H Q := by
  cases b with
  | true => exact iteT (h1 rfl Q k)
  | false => exact iteF (h2 rfl Q k)
/-! _law_pot -/
def sp_pot (K : PySem.W.Frag) : Sp := fun vs H Q _ => ∃ (l : Addr) (ns : List Int) (k : Nat), vs = [.ref l, .int (k : Nat)] ∧ SqL K H l (ns.map V.int) ∧ ns.length ≤ 63 ∧ k ≤ 63 ∧ ∀ H' p D, Same H H' → Same H D → Wd p D H' → Q (.ref p) H'
theorem sc_pot : FnScope ["_law_script", "_law_k", "_law_cell"] ["_law_script", "_law_k"] (defScope s_pot) := ⟨rfl, rfl, rfl, by decide +kernel, rfl, by decide +kernel, by decide +kernel⟩
theorem ok_pot {f : Addr} {fd : FuncData} (F : Fun K "_law_pot" "_law_pot" s_pot f fd) (B : Blt mg) : FnOk P w K mg base CX0 1 f fd ["_law_script", "_law_k"] (sp_pot K) := by
  refine F.ok sc_pot (fun vs H Q E h => ?_) (fun cdv A outer s H vs Q E hr h => ?_)
  · obtain ⟨l, ns, k, rfl, _⟩ := h
    rfl
  · obtain ⟨l, ns, k, rfl, hs, hn, hk, q⟩ := h
    refine ⟨_, pss_cons (ps_set (i := 2) sc_pot.nd rfl (Or.inl rfl) (pe_op op_add (pe_op op_mul pe_int (pv 1)) pe_int))
      (pss_cons (ps_if (pt_cmpR op_lt (pv 1) (pe_callB call_len_seq (by rfl) B.len PySem.boot_len (pa_cons (pv 0) pa_nil)) (nomark _)) (pss_one (ps_set (i := 2) sc_pot.nd rfl (Or.inl rfl) (pe_callB call_abs (by rfl) B.abs boot_abs (pa_cons (pe_ix ix_list (pv 0) (pv 1) (fun _ _ => rfl)) pa_nil)))) pss_nil)
      (pss_one (ps_ret (pe_lst (pa_cons (pe_callB (call_max2 rfl) (by rfl) B.max boot_max (pa_cons pe_int (pa_cons (pe_op op_sub (pv 2) (pe_op op_pow pe_int pe_int)) pa_nil))) (pa_cons (pe_op op_add (pe_op op_modN (pe_callTy call_int1 (by rfl) B.int boot_tint (pa_cons (pe_op op_add (pe_op op_add (pe_op op_mul (pe_op op_modN (pe_callTy call_int1 (by rfl) B.int boot_tint (pa_cons (pv 2) pa_nil)) pe_int) pe_int) (pe_op op_mul pe_int (pv 1))) pe_int) pa_nil)) pe_int) pe_int) pa_nil)))))), ?_⟩
    refine ⟨_, rfl, _, _, rfl, rfl, .inl ⟨by decide, by decide⟩, _, _, rfl, rfl, ?_⟩
    dsimp only
    refine seq_join (fun σ H' => ∃ i : Int, σ = [some (.ref l), some (.int (k : Nat)), some (.int i)] ∧ 0 ≤ i ∧ H' = H) ?_ ?_
    · intro N hN
      refine ⟨_, rfl, _, rfl, l, _, rfl, .inl hs, _, _, rfl, rfl, _, rfl, ?_⟩
      refine ite2 (fun e => ?_) (fun e => ?_)
      · have hk2 : k < ns.length := by
          have := of_decide_eq_true e
          rw [List.length_map] at this
          omega
        refine ⟨_, rfl, _, rfl, l, _, _, .int ns[k], rfl, rfl, hs, atI_nat ?_, _, rfl, hN _ _ ⟨_, rfl, ?_, rfl⟩⟩
        · rw [List.getElem?_map, List.getElem?_eq_getElem hk2]
          rfl
        · split <;> omega
      · exact hN _ _ ⟨_, rfl, by omega, rfl⟩
    rintro σ H' ⟨i, rfl, hi, rfl⟩
    refine ⟨_, rfl, _, _, rfl, rfl, ⟨by decide, by decide, by decide⟩, _, _, rfl, rfl, _, _, rfl, ?_⟩
    refine ⟨_, rfl, .inl ⟨_, rfl, _, _, rfl, rfl, (show (2147483549 : Int) ≠ 0 by decide), _, _, rfl, rfl, .inr ⟨by decide, by decide⟩, _, rfl, _, _, rfl, rfl, .inl ⟨by decide, by decide⟩, _, _, rfl, rfl, _, _, rfl, rfl, ?_⟩⟩
    refine .inl ⟨_, rfl, _, _, rfl, rfl, (show (2147483563 : Int) ≠ 0 by decide), _, _, rfl, rfl, ?_⟩
    refine ⟨by show 2 ≤ sizeLine; decide, fun p hp => q _ p H' (same_new hp) (Same.refl _) ⟨same_new hp, hp, _, _, ?_, ?_, ?_, upd_same⟩⟩
    · split <;> omega
    · have := Int.fmod_nonneg_of_pos (i.fmod 2147483549 * 40014 + 7069 * (k : Int) + 31) (b := 2147483563) (by decide)
      omega
    · have := Int.fmod_lt_of_pos (i.fmod 2147483549 * 40014 + 7069 * (k : Int) + 31) (b := 2147483563) (by decide)
      omega
/-! _law_draw -/
def sp_draw : Sp := fun vs H Q _ => ∃ (p : Addr) (m : Int) (D : Hp), vs = [.ref p, .int m] ∧ Wd p D H ∧ 1 ≤ m ∧ m < 1073741824 ∧ ∀ (H' : Hp) (d : Int), Wd p D H' → 0 ≤ d → d < m → Q (.int d) H'
theorem sc_draw : FnScope ["_law_pot_here", "_law_size", "_law_digit"] ["_law_pot_here", "_law_size"] (defScope s_draw) := ⟨rfl, rfl, rfl, by decide +kernel, rfl, by decide +kernel, by decide +kernel⟩
theorem ok_draw {f : Addr} {fd : FuncData} (F : Fun K "_law_draw" "_law_draw" s_draw f fd) (B : Blt mg) : FnOk P w K mg base CX0 1 f fd ["_law_pot_here", "_law_size"] sp_draw := by
  refine F.ok sc_draw (fun vs H Q E h => ?_) (fun cdv A outer s H vs Q E hr h => ?_)
  · obtain ⟨p, m, D, rfl, _⟩ := h
    rfl
  · obtain ⟨p, m, D, rfl, ⟨sD, nD, a, b, ha, hb, hb2, hp⟩, m1, m2, q⟩ := h
    refine ⟨_, pss_cons (ps_if (pt_cmpR op_gt (pe_ix ix_list (pv 0) pe_int (fun _ _ => rfl)) pe_int (nomark _)) (pss_cons (ps_asg (pe_callB call_divmod (by rfl) B.divmod boot_divmod (pa_cons (pe_ix ix_list (pv 0) pe_int (fun _ _ => rfl)) (pa_cons (pv 1) pa_nil))) (pg_tup rfl (pgs_cons (pg_sub (pv 0) pe_int set_list) (pgs_cons (pg_name (i := 2) sc_draw.nd rfl (Or.inl rfl)) pgs_nil))))
        (pss_one (ps_ret (pv 2)))) pss_nil)
      (pss_cons (ps_asg (pe_op op_modN (pe_callTy call_int1 (by rfl) B.int boot_tint (pa_cons (pe_op op_add (pe_op op_mul (pe_ix ix_list (pv 0) pe_int (fun _ _ => rfl)) pe_int) pe_int) pa_nil)) pe_int) (pg_sub (pv 0) pe_int set_list))
      (pss_one (ps_ret (pe_op op_modN (pe_callTy call_int1 (by rfl) B.int boot_tint (pa_cons (pe_op op_fdivN (pe_op op_modN (pe_callTy call_int1 (by rfl) B.int boot_tint (pa_cons (pe_op op_mul (pe_ix ix_list (pv 0) pe_int (fun _ _ => rfl)) (pe_ix ix_list (pv 0) pe_int (fun _ _ => rfl))) pa_nil)) pe_int) pe_int) pa_nil)) (pv 1))))), ?_⟩
    have ix0 : atI [V.int a, V.int b] 0 = some (.int a) := rfl
    have ix1 : atI [V.int a, V.int b] 1 = some (.int b) := rfl
    refine ⟨_, rfl, p, _, _, _, rfl, rfl, SqL.mk hp, ix0, _, _, rfl, rfl, _, rfl, ?_⟩
    refine ite2 (fun e => ?_) (fun e => ?_)
    · have ha0 : 0 < a := of_decide_eq_true e
      refine ⟨_, rfl, p, _, _, _, rfl, rfl, SqL.mk hp, ix0, _, rfl, _, _, rfl, ⟨m1, m2⟩, fun t ht => ?_⟩
      have ntp : t ≠ p := (ne_of_none hp ht).symm
      refine ⟨t, _, rfl, SqT.mk upd_same, rfl, _, _, rfl, ?_⟩
      refine ⟨_, rfl, p, [V.int a, V.int b], 0, 0, rfl, rfl, ?_, rfl, ?_⟩
      · rw [upd_ne ntp.symm]
        exact hp
      refine ⟨_, _, rfl, rfl, ?_⟩
      refine ⟨_, rfl, ?_⟩
      refine q _ _ ⟨fun c o ec => ?_, nD, a / m, b, Int.ediv_nonneg ha (by omega), hb, hb2, upd_same⟩ (Int.emod_nonneg a (by omega)) (Int.emod_lt_of_pos a (by omega))
      rw [upd_ne (ne_of_none ec nD), upd_ne (ne_of_none (sD _ _ ec) ht)]
      exact sD _ _ ec
    · have hb31 : (-(2 ^ 64 : Int) < b ∧ b < 2 ^ 64) := ⟨by omega, by omega⟩
      have n87 : (2147483587 : Int) ≠ 0 := by decide
      refine ⟨_, rfl, p, _, _, _, rfl, rfl, SqL.mk hp, ix1, _, _, rfl, rfl, .inl hb31, _, _, rfl, rfl, .inl ⟨_, rfl, _, _, rfl, rfl, n87, ?_⟩⟩
      have c0 := Int.fmod_nonneg_of_pos (b * 39373 + 7069) (b := 2147483587) (by decide)
      have c1 := Int.fmod_lt_of_pos (b * 39373 + 7069) (b := 2147483587) (by decide)
      show gSub (tVar 0) (tC (.int 1)) rSetL (.int ((b * 39373 + 7069).fmod 2147483587)) _ _ _
      revert c0 c1
      generalize (b * 39373 + 7069).fmod 2147483587 = c
      intro c0 c1
      have hc31 : (-(2 ^ 64 : Int) < c ∧ c < 2 ^ 64) := ⟨by omega, by omega⟩
      refine ⟨_, rfl, p, _, 1, 1, rfl, rfl, hp, rfl, ?_⟩
      have hp2 : upd H p (.lst ([V.int a, V.int b].set 1 (.int c))) p = some (.lst [.int a, .int c]) := upd_same
      have iy1 : atI [V.int a, V.int c] 1 = some (.int c) := rfl
      refine ⟨_, rfl, p, _, _, _, rfl, rfl, SqL.mk hp2, iy1, _, rfl, p, _, _, _, rfl, rfl, SqL.mk hp2, iy1, _, _, rfl, rfl, .inl hc31, ?_⟩
      refine .inl ⟨_, rfl, _, _, rfl, rfl, (show (2147483563 : Int) ≠ 0 by decide), _, _, rfl, rfl, (show ((17 : Int) ≠ 0 ∧ (17 : Int).natAbs < 1073741824) by decide), .inl ⟨_, rfl, _, rfl, _, _, rfl, rfl, (show m ≠ 0 by omega), ?_⟩⟩
      refine q _ _ ⟨fun d o ed => ?_, nD, a, c, ha, c0, by omega, hp2⟩ (Int.fmod_nonneg_of_pos _ (by omega)) (Int.fmod_lt_of_pos _ (by omega))
      rw [upd_ne (ne_of_none ed nD)]
      exact sD _ _ ed
end
end G0

namespace G0
open PySem PySem.Spec PyProof.Rows L2
abbrev s_is_row : Stmt := top 17
abbrev s_is_counts : Stmt := top 18
abbrev s_fault : Stmt := top 9999
abbrev s_first_fault : Stmt := top 19
/-- None, or a place -/
def optV : Option Nat → V
  | none => .non
  | some i => .int (i : Nat)
def AV.num : AV → Int
  | .int n => n
  | _ => 0
def AV.isCnt : AV → Bool
  | .int n => decide (0 ≤ n)
  | _ => false
def AV.isCounts : AV → Bool
  | .seq xs => decide (0 < xs.length) && xs.all AV.isCnt
  | _ => false
def AV.isRowB : AV → Bool
  | .seq xs => decide (0 < xs.length) && xs.all AV.isCnt && (ff (xs.map AV.num)).isNone
  | _ => false
theorem AVals.ints {K : PySem.W.Frag} {H : Hp} : ∀ {vs : List V} {xs : List AV}, AVals K H vs xs → xs.all AV.isCnt = true → vs = (xs.map AV.num).map V.int
  | _, _, .nil, _ => rfl
  | _, _, .cons (x := x) h hs, a => by
    rw [List.all_cons, Bool.and_eq_true] at a
    rw [List.map_cons, List.map_cons, ← AVals.ints hs a.2]
    cases h with
    | int n => rfl
    | other => cases a.1
    | seq => cases a.1
theorem avals_ints {K : PySem.W.Frag} {H : Hp} : ∀ ns : List Int, AVals K H (ns.map V.int) (ns.map AV.int)
  | [] => .nil
  | n :: ns => .cons (.int n) (avals_ints ns)
theorem av_ints {K : PySem.W.Frag} {H : Hp} {a : Addr} {ns : List Int} (h : Sq K H a (ns.map V.int)) : AVal K H (.ref a) (.seq (ns.map AV.int)) := .seq h (avals_ints ns)
theorem cnt_ints {ns : List Int} (h : ∀ n ∈ ns, 0 ≤ n) : (ns.map AV.int).all AV.isCnt = true := by
  rw [List.all_eq_true]
  intro x hx
  obtain ⟨n, hn, rfl⟩ := List.mem_map.mp hx
  exact decide_eq_true (h n hn)
theorem back_ints (ns : List Int) : ((ns.map AV.int).map AV.num) = ns := by
  rw [List.map_map]
  exact List.map_id' ns
theorem range_getD {α β : Type} (xs : List α) (d : α) (f : α → β) : (List.range' 0 xs.length).map (fun i => f (xs.getD i d)) = xs.map f := by
  have gen : ∀ (zs : List α) (k : Nat) (ys : List α), (List.range' k zs.length).map (fun i => f ((ys ++ zs).getD i d)) = zs.map f ∨ k ≠ ys.length := by
    intro zs
    induction zs with
    | nil => intro k ys; exact .inl rfl
    | cons z zs ih =>
      intro k ys
      by_cases h : k = ys.length
      · refine .inl ?_
        rcases ih (k + 1) (ys ++ [z]) with e | e
        · rw [List.append_assoc, List.singleton_append] at e
          rw [List.length_cons, List.range'_succ, List.map_cons, List.map_cons, e, h]
          simp
        · exact absurd (by simp [h]) e
      · exact .inr h
  rcases gen xs 0 [] with h | h
  · exact h
  · exact absurd rfl h
section
variable {P : Program} {w : World} {K : PySem.W.Frag} {mg : Str → Option Value} {base : Heap}
def sp_cntA (K : PySem.W.Frag) : Sp := fun vs H Q _ => ∃ (v : V) (x : AV), vs = [v] ∧ AVal K H v x ∧ Q (.bl x.isCnt) H
theorem sc_cnt : FnScope ["value"] ["value"] (defScope s_is_count) := ⟨rfl, rfl, rfl, by decide +kernel, rfl, by decide +kernel, by decide +kernel⟩
theorem ok_cntA {f f1 : Addr} {fd fd1 : FuncData} (F : Fun K "is_count" "is_count" s_is_count f fd) (Dint : Df K mg "is_integer" s_is_integer ["value"] f1 fd1) (Gint : FnOk P w K mg base CX0 1 f1 fd1 ["value"] (sp_intA K)) : FnOk P w K mg base CX0 2 f fd ["value"] (sp_cntA K) := by
  refine F.ok sc_cnt (fun vs H Q E h => ?_) (fun cdv A outer s H vs Q E hr h => ?_)
  · obtain ⟨v, x, rfl, _⟩ := h
    rfl
  · obtain ⟨v, x, rfl, hv, q⟩ := h
    refine ⟨_, pss_one (ps_ret (pe_and (pdf Dint Gint hr (pa_cons (pv 0) pa_nil)) (pe_one (pe_cmpR op_ge (pv 0) pe_int (nomark _))))), ?_⟩
    refine ⟨_, rfl, v, x, rfl, hv, _, rfl, ?_⟩
    cases hv with
    | int n => exact iteT ⟨_, rfl, _, _, rfl, rfl, q⟩
    | other => exact iteF q
    | seq => exact iteF q
def sp_countsA (K : PySem.W.Frag) : Sp := fun vs H Q _ => ∃ (v : V) (x : AV), vs = [v] ∧ AVal K H v x ∧ (∀ xs, x = .seq xs → xs.length < 1000000) ∧ ∀ H', Same H H' → Q (.bl x.isCounts) H'
theorem sc_counts : FnScope ["value", "number"] ["value"] (defScope s_is_counts) := ⟨rfl, rfl, rfl, by decide +kernel, rfl, by decide +kernel, by decide +kernel⟩
theorem ok_countsA {f f1 f2 : Addr} {fd fd1 fd2 : FuncData} (F : Fun K "is_counts" "is_counts" s_is_counts f fd) (B : Blt mg) (Dlst : Df K mg "is_list" s_is_list ["value"] f1 fd1) (Glst : FnOk P w K mg base CX0 1 f1 fd1 ["value"] (sp_listA K))
    (Dcnt : Df K mg "is_count" s_is_count ["value"] f2 fd2) (Gcnt : FnOk P w K mg base CX0 2 f2 fd2 ["value"] (sp_cntA K)) : FnOk P w K mg base CX0 3 f fd ["value"] (sp_countsA K) := by
  refine F.ok sc_counts (fun vs H Q E h => ?_) (fun cdv A outer s H vs Q E hr h => ?_)
  · obtain ⟨v, x, rfl, _⟩ := h
    rfl
  · obtain ⟨v, x, rfl, hv, ok, q⟩ := h
    have r1 : Room 1 _ := hr.mono (by decide)
    refine ⟨_, pss_one (ps_ret (pe_and (pdf Dlst Glst r1 (pa_cons (pv 0) pa_nil)) (pe_and (pe_cmpR op_gt (pe_callB call_len_seq (by rfl) B.len PySem.boot_len (pa_cons (pv 0) pa_nil)) pe_int (nomark _)) (pe_one (pe_callB (cr_all rfl) (by rfl) B.all boot_all (pa_cons (pe_lc (own := [("number", 1)]) (g := gName 1) (tt := tYes) rfl sc_counts.nd (pi_any (pv 0)) (blkOk_by (N := ["value", "number"]) (sc := defScope s_is_counts) (by decide +kernel)) (fun _ _ _ _ _ => pg_name (i := 1) sc_counts.nd rfl (Or.inl rfl)) (fun _ _ _ _ _ => pts_nil) (fun _ _ _ _ _ => (pdf Dcnt Gcnt hr (pa_cons (pv 1) pa_nil)))) pa_nil)))))), ?_⟩
    refine ⟨_, rfl, v, x, rfl, hv, fun H1 s1 => ⟨_, rfl, ?_⟩⟩
    cases hv with
    | int n => exact iteF (q _ s1)
    | other => exact iteF (q _ s1)
    | @seq a vs xs hs hq =>
      refine iteT ?_
      have lv := AVals.len hq
      have hl := ok _ rfl
      have hs1 := hs.same s1
      refine ⟨_, rfl, a, vs, rfl, hs1, _, _, rfl, rfl, _, rfl, ?_⟩
      by_cases h0 : 0 < xs.length
      · rw [decide_eq_true (show (0 : Int) < ((vs.length : Nat) : Int) by omega)]
        refine iteT ?_
        let FX : Nat → V := fun i => V.bl (xs.getD i .other).isCnt
        have turn : ∀ i u, vs[i]? = some u → AVal K H u (xs.getD i .other) := by
          intro i u hi
          obtain ⟨y, hy, av⟩ := AVals.at hq hi
          rw [List.getD_eq_getElem?_getD, hy]
          exact av
        have fin : ∀ H3 : Hp, Same H1 H3 → ∀ D : Addr, H3 D = some (.lst ((List.range' 0 vs.length).map FX)) → ∃ (a : Addr) (bs : List Bool), [V.ref D] = [V.ref a] ∧ SqL K H3 a (bs.map V.bl) ∧ Q (.bl (bs.all id)) H3 := by
          intro H3 s3 D hD
          rw [lv, range_getD xs .other fun x => V.bl x.isCnt] at hD
          refine ⟨D, xs.map AV.isCnt, rfl, SqL.mk ?_, ?_⟩
          · rw [hD, List.map_map]
            rfl
          · have e : (xs.map AV.isCnt).all id = AV.isCounts (.seq xs) := by
              show _ = (decide (0 < xs.length) && xs.all AV.isCnt)
              rw [decide_eq_true h0, Bool.true_and, List.all_map]
              rfl
            rw [e]
            exact q _ (s1.trans s3)
        rcases hs1 with hs1 | hs1
        · refine .inl ⟨_, rfl, a, rfl, ⟨_, hs1⟩, fun D hD => lcI FX hs1 (by rw [lv]; exact Nat.lt_of_lt_of_le hl (by decide)) hD (fun i u hu H3 s3 G N gk => ⟨rfl, yes_ite ?_⟩) fun H3 s3 h3 => fin H3 s3 D h3⟩
          exact ⟨_, rfl, u, _, rfl, (turn i u hu).same (s1.trans s3), gk _ (Same.refl _)⟩
        · refine .inr ⟨_, rfl, a, rfl, ⟨_, hs1⟩, fun D hD => lcIT FX hs1 (by rw [lv]; exact Nat.lt_of_lt_of_le hl (by decide)) hD (fun i u hu H3 s3 G N gk => ⟨rfl, yes_ite ?_⟩) fun H3 s3 h3 => fin H3 s3 D h3⟩
          exact ⟨_, rfl, u, _, rfl, (turn i u hu).same (s1.trans s3), gk _ (Same.refl _)⟩
      · rw [decide_eq_false (show ¬ (0 : Int) < ((vs.length : Nat) : Int) by omega)]
        refine iteF ?_
        have e : AV.isCounts (.seq xs) = false := by
          show (decide (0 < xs.length) && xs.all AV.isCnt) = false
          rw [decide_eq_false h0]
          rfl
        rw [← e]
        exact q _ s1
theorem and_v {ta tb : TE} {σ : L2.St} {H : Hp} {Q : VK} (k1 k2 : Bool) (ha : ∀ R : VK, R (.bl k1) H → ta σ H R) (hb : k1 = true → ∀ R : VK, R (.bl k2) H → tb σ H R) (q : Q (.bl (k1 && k2)) H) : tAndV ta tb σ H Q := by
  refine ha _ ⟨_, rfl, ?_⟩
  cases k1 with
  | false => exact iteF q
  | true => exact iteT (hb rfl _ q)
/-! first_fault -/
def sp_first (K : PySem.W.Frag) : Sp := fun vs H Q _ => ∃ (a : Addr) (ns : List Int), vs = [.ref a] ∧ Sq K H a (ns.map V.int) ∧ ∀ H', Same H H' → Q (optV (ff ns)) H'
theorem sc_first : FnScope ["counts", "ahead", "total", "place", "number", "rises"] ["counts"] (defScope s_first_fault) := ⟨rfl, rfl, rfl, by decide +kernel, rfl, by decide +kernel, by decide +kernel⟩
theorem ok_first {f : Addr} {fd : FuncData} (F : Fun K "first_fault" "first_fault" s_first_fault f fd) (B : Blt mg) {t1 t2 : Tok} (m9 : mg "MOST_PLACES" = some (.int 9 t1)) (m24 : mg "MOST_SUM" = some (.int 24 t2)) : FnOk P w K mg base CX0 1 f fd ["counts"] (sp_first K) := by
  refine F.ok sc_first (fun vs H Q E h => ?_) (fun cdv A outer s H vs Q E hr h => ?_)
  · obtain ⟨a, ns, rfl, _⟩ := h
    rfl
  · obtain ⟨a, ns, rfl, hs, q⟩ := h
    obtain ⟨kind, hk⟩ := hs.kind
    refine ⟨_, pss_cons (ps_asg (pe_tup (pa_cons pe_int (pa_cons pe_int pa_nil))) (pg_tup rfl (pgs_cons (pg_name (i := 1) sc_first.nd rfl (.inl rfl)) (pgs_cons (pg_name (i := 2) sc_first.nd rfl (.inl rfl)) pgs_nil))))
      (pss_cons (ps_for PassesOwn.never rfl (pi_E kind (by rfl) B.enumerate (pa_cons (pv 0) pa_nil)) (pg_tup rfl (pgs_cons (pg_name (i := 3) sc_first.nd rfl (Or.inl rfl)) (pgs_cons (pg_name (i := 4) sc_first.nd rfl (Or.inl rfl)) pgs_nil))) (pss_cons (ps_aug (i := 2) sc_first.nd rfl (Or.inl rfl) (pv 4) ip_add)
        (pss_cons (ps_set (i := 5) sc_first.nd rfl (Or.inl rfl) (pe_and (pe_cmpR op_eq (pv 1) (pv 3) (nomark _)) (pe_one (pe_cmpR op_eq (pv 4) (pe_op op_add (pv 3) pe_int) (nomark _)))))
        (pss_cons (ps_if (PW.pt (pw_or (pt_cmpR op_eq (pv 3) (pe_glob (v := V.int 9) rfl m9 ⟨_, rfl⟩) (nomark _)) (pw_or (pt_cmpR op_gt (pv 2) (pe_glob (v := V.int 24) rfl m24 ⟨_, rfl⟩) (nomark _)) (pw_or1 (pt_not (PW.pt (pw_or (pt_val (pv 5)) (pw_or1 (pt_chain op_lt op_le pe_int (pv 4) (pv 1)))))))))) (pss_one (ps_ret (pv 3))) pss_nil)
        (pss_one (ps_set (i := 1) sc_first.nd rfl (Or.inl rfl) (pv 4)))))))
      (pss_one (ps_ret pe_non))), ?_⟩
    refine ⟨by show 2 ≤ sizeLine; decide, fun t0 ht0 => ?_⟩
    have s0 := same_new (o := .tup [.int 0, .int 0]) ht0
    refine ⟨t0, _, rfl, SqT.mk upd_same, rfl, _, _, rfl, _, _, rfl, rfl, ?_⟩
    refine ⟨_, rfl, a, ns.map V.int, rfl, hk.same s0, for_it (walk_E (b := kind) (xs := ns.map V.int)) (fun i σ H2 => ∃ y3 y4 y5, σ = [some (.ref a), some (.int (lastI 0 (ns.take i))), some (.int (ns.take i).sum), y3, y4, y5] ∧ Same H H2 ∧ ff (ns.take i) = none) ⟨none, none, none, rfl, s0, rfl⟩ ?_ ?_ ?_⟩
    · rintro i σ H2 _ ⟨y3, y4, y5, rfl, s2, _⟩
      exact hk.same s2
    · rintro i y σ H2 H3 hi ⟨y3, y4, y5, rfl, s2, h0⟩ ⟨Tp, z1, z2, rfl, nT, rfl, ez1, ez2⟩
      cases ez1
      have hl : i < ns.length := by rw [List.length_map] at hi; exact hi
      have en : ns[i]? = some ns[i] := List.getElem?_eq_getElem hl
      have ez3 : (ns.map V.int)[i]? = some z2 := ez2
      rw [List.getElem?_map, en] at ez3
      cases ez3
      clear ez2
      revert en
      generalize ns[i] = n
      intro en
      have sT : Same H2 (upd H2 Tp (.tup [.int (i : Nat), .int n])) := same_new nT
      refine ⟨Tp, _, rfl, SqT.mk upd_same, rfl, _, _, rfl, _, _, rfl, rfl, ?_⟩
      have sA := s2.trans sT
      have fe := ff_take en h0
      have se : (ns.take (i + 1)).sum = (ns.take i).sum + n := by rw [List.take_add_one, en]; simp
      have le : lastI 0 (ns.take (i + 1)) = n := by rw [List.take_add_one, en]; exact lastI_snoc ..
      revert h0 fe se
      generalize lastI 0 (ns.take i) = a'
      generalize (ns.take i).sum = t'
      intro h0 fe se
      have bad : ∀ H', Same H H' → ¬ okStep i a' t' n → Q (.int (i : Nat)) H' := fun H' s' no => by
        rw [if_neg no] at fe
        have := q _ s'
        rw [ff_stop fe] at this
        exact this
      refine ⟨_, rfl, _, rfl, _, _, rfl, rfl, ?_⟩
      dsimp only
      show tAndV _ _ _ _ _
      refine and_v (decide (V.int a' = V.int (i : Nat))) (decide (V.int n = V.int ((i : Nat) + 1))) (fun R r => ⟨_, rfl, _, rfl, rfl, r⟩) (fun _ R r => ⟨_, rfl, _, rfl, _, _, rfl, rfl, rfl, r⟩) ?_
      have er : (decide (V.int a' = V.int (i : Nat)) && decide (V.int n = V.int ((i : Nat) + 1))) = decide (a' = (i : Int) ∧ n = (i : Int) + 1) := by
        simp
      rw [er]
      refine ⟨_, rfl, rfl, _, rfl, ?_⟩
      by_cases p9 : i = 9
      · rw [decide_eq_true (show V.int (i : Nat) = V.int 9 by rw [p9]; rfl)]
        exact iteT ⟨_, rfl, bad _ sA fun o => o.1 p9⟩
      · rw [decide_eq_false (show ¬ V.int (i : Nat) = V.int 9 from fun z => p9 (by have := V.int.inj z; omega))]
        refine iteF ⟨_, rfl, _, _, rfl, rfl, _, rfl, ?_⟩
        by_cases p24 : 24 < t' + n
        · rw [decide_eq_true p24]
          exact iteT ⟨_, rfl, bad _ sA fun o => by have := o.2.1; omega⟩
        · rw [decide_eq_false p24]
          refine iteF ⟨_, rfl, _, rfl, ?_⟩
          have good : okStep i a' t' n → ff (ns.take (i + 1)) = none := fun o => by rw [fe, if_pos o]
          by_cases pr : a' = (i : Int) ∧ n = (i : Int) + 1
          · rw [decide_eq_true pr]
            refine iteT (iteF ?_)
            exact ⟨_, rfl, _, _, _, by rw [le, se]; rfl, sA, good ⟨p9, by omega, .inl pr⟩⟩
          · rw [decide_eq_false pr]
            refine iteF ?_
            refine ⟨_, rfl, _, _, rfl, rfl, _, rfl, ?_⟩
            by_cases n0 : 0 < n
            · rw [decide_eq_true n0]
              refine iteT ⟨_, rfl, _, _, rfl, rfl, _, rfl, ?_⟩
              by_cases na : n ≤ a'
              · rw [decide_eq_true na]
                refine iteF ?_
                exact ⟨_, rfl, _, _, _, by rw [le, se]; rfl, sA, good ⟨p9, by omega, .inr ⟨n0, na⟩⟩⟩
              · rw [decide_eq_false na]
                refine iteT ?_
                exact ⟨_, rfl, bad _ sA fun o => o.2.2.elim pr fun z => na z.2⟩
            · rw [decide_eq_false n0]
              refine iteF ⟨_, rfl, iteT ?_⟩
              exact ⟨_, rfl, bad _ sA fun o => o.2.2.elim pr fun z => n0 z.1⟩
    · rintro σ H2 ⟨y3, y4, y5, rfl, s2, h0⟩
      rw [List.length_map, List.take_length] at h0
      have := q _ s2
      rw [h0] at this
      exact this
end
end G0

namespace G0
open PySem PySem.Spec PyProof.Rows L2
section
variable {P : Program} {w : World} {K : PySem.W.Frag} {mg : Str → Option Value} {base : Heap}
def sp_rowA (K : PySem.W.Frag) : Sp := fun vs H Q _ => ∃ (v : V) (x : AV), vs = [v] ∧ AVal K H v x ∧ (∀ xs, x = .seq xs → xs.length < 1000000) ∧ ∀ H', Same H H' → Q (.bl x.isRowB) H'
theorem optV_non (o : Option Nat) : decide (optV o = .non) = o.isNone := by
  cases o <;> simp [optV]
theorem sc_isrow : FnScope ["value"] ["value"] (defScope s_is_row) := ⟨rfl, rfl, rfl, by decide +kernel, rfl, by decide +kernel, by decide +kernel⟩
theorem ok_rowA {f f1 f2 : Addr} {fd fd1 fd2 : FuncData} (F : Fun K "is_row" "is_row" s_is_row f fd) (Dcs : Df K mg "is_counts" s_is_counts ["value"] f1 fd1) (Gcs : FnOk P w K mg base CX0 3 f1 fd1 ["value"] (sp_countsA K))
    (Dff : Df K mg "first_fault" s_first_fault ["counts"] f2 fd2) (Gff : FnOk P w K mg base CX0 1 f2 fd2 ["counts"] (sp_first K)) : FnOk P w K mg base CX0 4 f fd ["value"] (sp_rowA K) := by
  refine F.ok sc_isrow (fun vs H Q E h => ?_) (fun cdv A outer s H vs Q E hr h => ?_)
  · obtain ⟨v, x, rfl, _⟩ := h
    rfl
  · obtain ⟨v, x, rfl, hv, ok, q⟩ := h
    have r1 : Room 1 _ := hr.mono (by decide)
    refine ⟨_, pss_one (ps_ret (pe_and (pdf Dcs Gcs hr (pa_cons (pv 0) pa_nil)) (pe_one (pe_cmpR op_isN (pdf Dff Gff r1 (pa_cons (pv 0) pa_nil)) pe_non (nomark _))))), ?_⟩
    refine ⟨_, rfl, v, x, rfl, hv, ok, fun H1 s1 => ⟨_, rfl, ?_⟩⟩
    cases hv with
    | int n => exact iteF (q _ s1)
    | other => exact iteF (q _ s1)
    | @seq a vs xs hs hq =>
      cases hc : AV.isCounts (.seq xs) with
      | false =>
        refine iteF ?_
        have e : AV.isRowB (.seq xs) = false := by
          show (AV.isCounts (.seq xs) && _) = false
          rw [hc]
          rfl
        rw [← e]
        exact q _ s1
      | true =>
        have hc' : (decide (0 < xs.length) && xs.all AV.isCnt) = true := hc
        rw [Bool.and_eq_true] at hc'
        have ev := AVals.ints hq hc'.2
        have hs1 := hs.same s1
        rw [ev] at hs1
        refine iteT ⟨_, rfl, a, _, rfl, hs1, fun H2 s2 => ⟨rfl, ?_⟩⟩
        rw [optV_non]
        have e : AV.isRowB (.seq xs) = (ff (xs.map AV.num)).isNone := by
          show (AV.isCounts (.seq xs) && _) = _
          rw [hc]
          rfl
        rw [← e]
        exact q _ (s1.trans s2)
end
end G0

namespace G0
open PySem PySem.Spec PyProof.Rows L2
abbrev s_lrow : Stmt := top 43
abbrev s_passed : Stmt := top 44
section
variable {X : Cx}
/-! list(range(a, b)) -/
theorem cr_range2 : CallR X (.type "range") (fun vs H Q => ∃ i j, vs = [V.int i, V.int j] ∧ ∀ p, H p = none → Q (.ref p) (upd H p (.rng i j))) := by
  intro pins s σ H vs us Q J r h
  obtain ⟨i, j, rfl, q⟩ := h
  obtain ⟨u, v, rfl, ⟨t, rfl⟩, ⟨t2, rfl⟩⟩ := vals2 r
  refine call_range_2 ⟨.ref s.heap.objs.size, upd H s.heap.objs.size (.rng i j), J.laid (t' := s.toks + 1) (fun b o e => Heap.get?_push_of_some _ e) (Nat.le_refl _) ?_, rfl, q _ (J.hok.fresh (Nat.le_refl _))⟩
  exact ⟨t, t2, s.toks, Heap.get?_push_size _ rfl⟩
theorem cr_range1 : CallR X (.type "range") (fun vs H Q => ∃ j, vs = [V.int j] ∧ ∀ p, H p = none → Q (.ref p) (upd H p (.rng 0 j))) := by
  intro pins s σ H vs us Q J r h
  obtain ⟨j, rfl, q⟩ := h
  obtain ⟨u, rfl, t, rfl⟩ := vals1 r
  refine call_range_1 ⟨.ref s.heap.objs.size, upd H s.heap.objs.size (.rng 0 j), J.laid (t' := s.toks + 1 + 1) (fun b o e => Heap.get?_push_of_some _ e) (Nat.le_refl _) ?_, rfl, q _ (J.hok.fresh (Nat.le_refl _))⟩
  exact ⟨s.toks, t, s.toks + 1, Heap.get?_push_size _ rfl⟩
theorem vals_from : ∀ (n : Nat) {acc : List Value} (k : Nat), acc.length = n → (∀ j v, acc[j]? = some v → ∃ t, v = Value.int ((k + j : Nat) : Int) t) → Vals ((List.range' k n).map fun i => V.int (i : Nat)) acc
  | 0, acc, k, h, _ => by
    rw [List.length_eq_zero_iff.mp h]
    exact .nil
  | n + 1, [], k, h, _ => by cases h
  | n + 1, v :: acc, k, h, all => by
    obtain ⟨t, e⟩ := all 0 v rfl
    rw [List.range'_succ]
    refine .cons ⟨t, e⟩ (vals_from n (k + 1) (Nat.succ.inj h) fun j u hj => ?_)
    obtain ⟨t2, e2⟩ := all (j + 1) u hj
    exact ⟨t2, by rw [e2]; congr 1; omega⟩
theorem cr_listRng2 (calm : X.calm = true) : CallR X (.type "list") (fun vs H Q => ∃ (r : Addr) (k n : Nat) (lo hi : Int), vs = [V.ref r] ∧ H r = some (.rng lo hi) ∧ lo = (k : Nat) ∧ hi = ((k + n : Nat) : Int) ∧ n ≤ 1000 ∧ k ≤ 1000 ∧ ∀ l, H l = none → Q (.ref l) (upd H l (.lst ((List.range' k n).map fun i => V.int (i : Nat))))) := by
  intro pins s σ H vs us Q J rv h
  obtain ⟨r, k, n, lo, hi, rfl, hr, rfl, rfl, hn, hk, q⟩ := h
  obtain ⟨u, rfl, ru⟩ := vals1 rv
  cases ru
  obtain ⟨t, u, v, look⟩ := (show ∃ t u v, s.heap.get? r = some { cls := .type "range", data := .fields #[.int (k : Nat) t, .int ((k + n : Nat) : Int) u, .int 1 v] } from J.hok r _ hr)
  refine call_list_range (n := n) (J.ok.hd calm) look ?_ ?_ (by omega) fun h2 tk acc c2 kept hS items => ?_
  · exact small_one (by omega) (by omega) (by omega) (by omega)
  · rw [rangeSize_nat]
    omega
  · obtain ⟨size, each⟩ := items
    have fr : H s.heap.objs.size = none := J.hok.fresh (Nat.le_refl _)
    refine ⟨.ref s.heap.objs.size, upd H s.heap.objs.size (.lst ((List.range' k n).map fun i => V.int (i : Nat))), J.laid (t' := tk) kept (Nat.le_refl _) ⟨?_, acc.toList, c2, ?_, hS⟩, rfl, q _ fr⟩
    · rw [List.length_map, List.length_range']
      exact Nat.le_trans hn (by decide)
    · refine vals_from n k (by simpa using size) fun j v hj => ?_
      obtain ⟨t, e⟩ := each j v (by simpa using hj)
      exact ⟨t, by rw [e]; congr 1; omega⟩
end
theorem range_ints (k n : Nat) : ((List.range' k n).map fun i => V.int (i : Nat)) = ((List.range' k n).map fun i => ((i : Nat) : Int)).map V.int := by rw [List.map_map]; rfl
theorem at_last {ns : List Int} {n : Int} : atI ((ns ++ [n]).map V.int) (-1) = some (.int n) := by
  unfold atI ixN
  rw [if_neg (by decide), List.length_map, List.length_append, if_pos (by simp; omega)]
  show ((ns ++ [n]).map V.int)[_]? = _
  rw [show ((-1 : Int) + ((ns.length + [n].length : Nat) : Int)).toNat = ns.length by simp; omega]
  simp
/-- what _law_row hands back -/
def RowAt (v : V) (D : Hp) : Prop := ∃ L ns, v = .ref L ∧ D L = some (.lst (ns.map V.int)) ∧ ns ≠ [] ∧ ff ns = none
section
variable {P : Program} {w : World} {K : PySem.W.Frag} {mg : Str → Option Value} {base : Heap}
/-! _law_passed -/
def sp_passed (K : PySem.W.Frag) : Sp := fun vs H Q _ => ∃ (p l : Addr) (D : Hp) (us : List V), vs = [.ref p, .ref l] ∧ Wd p D H ∧ SqL K D l us ∧ Gets p D (fun v D' => ∃ q, v = .ref q ∧ Sq K D' q us ∧ D q = none) Q
theorem sc_passed : FnScope ["_law_pot_here", "_law_numbers"] ["_law_pot_here", "_law_numbers"] (defScope s_passed) := ⟨rfl, rfl, rfl, by decide +kernel, rfl, by decide +kernel, by decide +kernel⟩
theorem ok_passed {f f1 : Addr} {fd fd1 : FuncData} (F : Fun K "_law_passed" "_law_passed" s_passed f fd) (B : Blt mg) (Ddraw : Df K mg "_law_draw" s_draw ["_law_pot_here", "_law_size"] f1 fd1) (Gdraw : FnOk P w K mg base CX0 1 f1 fd1 ["_law_pot_here", "_law_size"] sp_draw) :
    FnOk P w K mg base CX0 2 f fd ["_law_pot_here", "_law_numbers"] (sp_passed K) := by
  refine F.ok sc_passed (fun vs H Q E h => ?_) (fun cdv A outer s H vs Q E hr h => ?_)
  · obtain ⟨p, l, D, us, rfl, _⟩ := h
    rfl
  · obtain ⟨p, l, D, us, rfl, wd, hs, q⟩ := h
    refine ⟨_, pss_one (ps_ret (pe_ifExp (pt_cmpR op_eq (pdf Ddraw Gdraw hr (pa_cons (pv 0) (pa_cons pe_int pa_nil))) pe_int (nomark _)) (pe_callTy call_tuple_of (by rfl) B.tuple boot_ttuple (pa_cons (pv 1) pa_nil)) (pe_callTy call_list_of (by rfl) B.list boot_tlist (pa_cons (pv 1) pa_nil)))), ?_⟩
    refine ⟨_, rfl, p, 2, D, rfl, wd, by decide, by decide, fun H1 d w1 d0 d1 => ⟨rfl, _, rfl, ?_⟩⟩
    refine ite2 (fun e => ?_) (fun e => ?_)
    · refine ⟨_, rfl, l, us, rfl, .inl ⟨w1.s.seq hs, fun t ht => ?_⟩⟩
      obtain ⟨w3, s3, h3⟩ := w1.new (same_new ht) ht upd_same
      exact q _ _ _ s3 w3 ⟨t, rfl, .inr (SqT.mk h3), w1.s.free ht⟩
    · refine ⟨_, rfl, l, us, rfl, .inl (w1.s.seq hs), fun t ht => ?_⟩
      obtain ⟨w3, s3, h3⟩ := w1.new (same_new ht) ht upd_same
      exact q _ _ _ s3 w3 ⟨t, rfl, .inl (SqL.mk h3), w1.s.free ht⟩
/-! _law_row -/
def sp_lrow : Sp := fun vs H Q _ => ∃ (p : Addr) (D : Hp), vs = [.ref p, .int 24] ∧ Wd p D H ∧ Gets p D RowAt Q
theorem sc_lrow : FnScope ["_law_pot_here", "_law_most", "_law_rise", "_law_turn", "_law_found", "_law_room"] ["_law_pot_here", "_law_most"] (defScope s_lrow) := ⟨rfl, rfl, rfl, by decide +kernel, rfl, by decide +kernel, by decide +kernel⟩
theorem ok_lrow {f f1 : Addr} {fd fd1 : FuncData} (F : Fun K "_law_row" "_law_row" s_lrow f fd) (B : Blt mg) (Ddraw : Df K mg "_law_draw" s_draw ["_law_pot_here", "_law_size"] f1 fd1) (Gdraw : FnOk P w K mg base CX0 1 f1 fd1 ["_law_pot_here", "_law_size"] sp_draw) :
    FnOk P w K mg base CX0 2 f fd ["_law_pot_here", "_law_most"] sp_lrow := by
  refine F.ok sc_lrow (fun vs H Q E h => ?_) (fun cdv A outer s H vs Q E hr h => ?_)
  · obtain ⟨p, D, rfl, _⟩ := h
    rfl
  · obtain ⟨p, D, rfl, wd, q⟩ := h
    refine ⟨_, pss_cons (ps_set (i := 2) sc_lrow.nd rfl (Or.inl rfl) (pe_op op_add pe_int (pdf Ddraw Gdraw hr (pa_cons (pv 0) (pa_cons pe_int pa_nil)))))
      (pss_cons (ps_for PassesOwn.never rfl (pi_range1 (by rfl) B.range (pa_cons pe_int pa_nil)) (pg_name (i := 3) sc_lrow.nd rfl (Or.inl rfl)) (pss_one (ps_if (pt_cmpR op_gt (pe_op op_fdivN (pe_op op_mul (pv 2) (pe_op op_add (pv 2) pe_int)) pe_int) (pv 1) (nomark _)) (pss_one (ps_set (i := 2) sc_lrow.nd rfl (Or.inl rfl) (pe_op op_sub (pv 2) pe_int))) pss_nil)))
      (pss_cons (ps_set (i := 4) sc_lrow.nd rfl (Or.inl rfl) (pe_callTy (cr_listRng2 rfl) (by rfl) B.list boot_tlist (pa_cons (pe_callTy cr_range2 (by rfl) B.range boot_trange (pa_cons pe_int (pa_cons (pe_op op_add (pv 2) pe_int) pa_nil))) pa_nil)))
      (pss_cons (ps_for PassesOwn.never rfl (pi_range1 (by rfl) B.range (pa_cons (pdf Ddraw Gdraw hr (pa_cons (pv 0) (pa_cons pe_int pa_nil))) pa_nil)) (pg_name (i := 3) sc_lrow.nd rfl (Or.inl rfl)) (pss_cons (ps_set (i := 5) sc_lrow.nd rfl (Or.inl rfl) (pe_callB (call_min2 rfl) (by rfl) B.min boot_min (pa_cons (pe_ix ix_list (pv 4) (pe_un un_neg pe_int) (fun _ _ => rfl)) (pa_cons (pe_op op_sub (pv 1) (pe_callB (cr_sum rfl) (by rfl) B.sum boot_sum (pa_cons (pv 4) pa_nil))) pa_nil))))
        (pss_cons (ps_if (PW.pt (pw_or (pt_cmpR op_lt (pv 5) pe_int (nomark _)) (pw_or1 (pt_cmpR op_eq (pe_callB call_len_seq (by rfl) B.len PySem.boot_len (pa_cons (pv 4) pa_nil)) pe_int (nomark _))))) (pss_one (ps_ret (pv 4))) pss_nil)
        (pss_one (ps_expr (pe_bm PySem.F.plainAttrs_list PySem.F.slot_list_append PySem.F.type_list_append mt_append (pv 4) (pa_cons (pe_op op_add pe_int (pdf Ddraw Gdraw hr (pa_cons (pv 0) (pa_cons (pv 5) pa_nil)))) pa_nil)))))))
      (pss_one (ps_ret (pv 4)))))), ?_⟩
    refine ⟨_, rfl, p, 6, D, rfl, wd, by decide, by decide, fun H1 d w1 d0 d1 => ⟨_, _, rfl, rfl, ?_⟩⟩
    have hr6 : ∃ k : Nat, 1 + d = (k : Int) ∧ 1 ≤ k ∧ k ≤ 6 := ⟨(1 + d).toNat, by omega, by omega, by omega⟩
    obtain ⟨k, ek, k1, k6⟩ := hr6
    have small : ¬ (24 : Int) < ((k : Int) * ((k : Int) + 1)).fdiv 2 := by
      have : k = 1 ∨ k = 2 ∨ k = 3 ∨ k = 4 ∨ k = 5 ∨ k = 6 := by omega
      rcases this with rfl | rfl | rfl | rfl | rfl | rfl <;> decide
    have ff0 : ff ((List.range' 1 k).map fun i => ((i : Nat) : Int)) = none := by
      have : k = 1 ∨ k = 2 ∨ k = 3 ∨ k = 4 ∨ k = 5 ∨ k = 6 := by omega
      rcases this with rfl | rfl | rfl | rfl | rfl | rfl <;> decide
    dsimp only
    rw [ek]
    refine ⟨6, rfl, by decide, by decide, for_range (n := 6) (fun i σ H2 => ∃ y3, σ = [some (.ref p), some (.int 24), some (.int (k : Nat)), y3, none, none] ∧ H2 = H1) ⟨none, rfl, rfl⟩ ?_ ?_⟩
    · rintro i σ H2 hi ⟨y3, rfl, rfl⟩
      refine ⟨_, rfl, _, rfl, _, _, rfl, rfl, _, _, rfl, rfl, .inl ⟨by omega, by omega⟩, _, _, rfl, rfl, (show ((2 : Int) ≠ 0 ∧ (2 : Int).natAbs < 1073741824) by decide), _, rfl, _, _, rfl, rfl, _, rfl, ?_⟩
      rw [decide_eq_false small]
      exact iteF ⟨_, rfl, rfl⟩
    · rintro σ H2 ⟨y3, rfl, rfl⟩
      -- found = list(range(1, rise + 1))
      refine ⟨_, rfl, _, _, rfl, rfl, _, _, rfl, fun r hr2 => ?_⟩
      have s1 := same_new (o := .rng 1 ((k : Int) + 1)) hr2
      refine ⟨r, 1, k, _, _, rfl, upd_same, rfl, by omega, by omega, by omega, fun L hL => ?_⟩
      rw [range_ints]
      have L0 := (w1.pure s1).s.free hL
      have Lp := (w1.pure s1).ne hL
      have w2 := (w1.pure s1).over (o := .lst (((List.range' 1 k).map fun i => ((i : Nat) : Int)).map V.int)) L0 Lp
      revert w2
      have hLL : (upd (upd H2 r (.rng 1 ((k : Int) + 1))) L (.lst (((List.range' 1 k).map fun i => ((i : Nat) : Int)).map V.int))) L = some (.lst (((List.range' 1 k).map fun i => ((i : Nat) : Int)).map V.int)) := upd_same
      have ne0 : ((List.range' 1 k).map fun i => ((i : Nat) : Int)) ≠ [] := by
        intro z
        have := congrArg List.length z
        rw [List.length_map, List.length_range'] at this
        simp at this
        omega
      revert hLL ne0 ff0
      generalize ((List.range' 1 k).map fun i => ((i : Nat) : Int)) = ns0
      generalize (upd (upd H2 r (.rng 1 ((k : Int) + 1))) L (.lst (ns0.map V.int))) = H3
      intro ff0 hLL ne0 w2
      -- for turn in range(draw(pot, 8))
      have w3 := w2.got L0 Lp hLL
      refine ⟨_, rfl, p, 8, _, rfl, w3, by decide, by decide, fun H4 d2 w4 e0 e1 => ⟨d2, rfl, by omega, by omega, for_range (n := d2.toNat) (fun i σ H5 => ∃ (ns : List Int) (y3 y5 : Option V), σ = [some (.ref p), some (.int 24), some (.int (k : Nat)), y3, some (.ref L), y5] ∧ Wd p (upd D L (.lst (ns.map V.int))) H5 ∧ ns ≠ [] ∧ ff ns = none) ⟨ns0, _, none, rfl, w4, ne0, ff0⟩ ?_ ?_⟩⟩
      · rintro i σ H5 hi ⟨ns, y3, y5, rfl, w5, ne, hf⟩
        obtain ⟨r1, r2, r3, r4⟩ := (row_iff ns).mpr hf
        have hL5 : H5 L = some (.lst (ns.map V.int)) := w5.s _ _ upd_same
        obtain ⟨ys, a, rfl⟩ := (snoc_cases ns).resolve_left ne
        refine ⟨_, rfl, _, rfl, L, _, _, _, rfl, rfl, SqL.mk hL5, at_last, ?_⟩
        refine ⟨_, rfl, _, rfl, L, _, rfl, SqL.mk hL5, _, _, rfl, rfl, _, _, rfl, ?_⟩
        have a0 : 0 < a := r2 a (by simp)
        have a9 : a ≤ ((ys ++ [a]).length : Nat) := row_le ⟨r1, r2, r3, r4⟩ a (by simp)
        obtain ⟨m, hm, ma, ms⟩ : ∃ m : Int, (if 24 - (ys ++ [a]).sum < a then 24 - (ys ++ [a]).sum else a) = m ∧ m ≤ a ∧ m ≤ 24 - (ys ++ [a]).sum := ⟨_, rfl, by split <;> omega, by split <;> omega⟩
        dsimp only
        rw [hm]
        refine ⟨_, rfl, _, _, rfl, rfl, _, rfl, ?_⟩
        by_cases m1 : m < 1
        · rw [decide_eq_true m1]
          exact iteT ⟨_, rfl, q _ _ _ (same_new L0) w5 ⟨L, _, rfl, upd_same, ne, hf⟩⟩
        · rw [decide_eq_false m1]
          refine iteF ⟨_, rfl, L, _, rfl, .inl (SqL.mk hL5), rfl, _, rfl, ?_⟩
          by_cases l9 : (ys ++ [a]).length = 9
          · rw [decide_eq_true (show V.int (((ys ++ [a]).map V.int).length : Nat) = V.int 9 by rw [List.length_map, l9]; rfl)]
            exact iteT ⟨_, rfl, q _ _ _ (same_new L0) w5 ⟨L, _, rfl, upd_same, ne, hf⟩⟩
          · rw [decide_eq_false (show ¬ V.int (((ys ++ [a]).map V.int).length : Nat) = V.int 9 from fun z => l9 (by have := V.int.inj z; rw [List.length_map] at this; omega))]
            refine iteF ⟨_, rfl, .inl ⟨rfl, _, SqL.mk hL5⟩, _, rfl, _, rfl, p, m, _, rfl, w5, by omega, by omega, fun H6 d3 w6 f0 f1 => ⟨_, _, rfl, rfl, ?_⟩⟩
            have hL6 : H6 L = some (.lst ((ys ++ [a]).map V.int)) := w6.s _ _ upd_same
            refine ⟨L, _, _, rfl, rfl, hL6, Nat.lt_of_le_of_lt (show ((ys ++ [a]).map V.int).length ≤ 9 by rw [List.length_map]; exact r1) (by decide), ?_⟩
            refine ⟨(ys ++ [a]) ++ [1 + d3], _, _, rfl, ?_, by simp, ?_⟩
            · have e : ((ys ++ [a]).map V.int) ++ [V.int (1 + d3)] = (((ys ++ [a]) ++ [1 + d3]).map V.int) := by simp
              dsimp only
              rw [e]
              exact (w6.put L0 Lp).got L0 Lp upd_same
            · rw [ff_snoc, hf]
              show (if okStep _ _ _ _ then none else some _) = none
              rw [if_pos ⟨l9, by omega, .inr ⟨by omega, by rw [lastI_snoc]; omega⟩⟩]
      · rintro σ H5 ⟨ns, y3, y5, rfl, w5, ne, hf⟩
        exact ⟨_, rfl, q _ _ _ (same_new L0) w5 ⟨L, _, rfl, upd_same, ne, hf⟩⟩
end
end G0

namespace G0
open PySem PySem.Spec PyProof.Rows L2
theorem cut_lo (xs : List V) (i : Nat) : cutV xs none (some (i : Int)) = xs.take i := by
  unfold cutV
  rw [HT.sIx_none, HT.sIx_nat, List.drop_zero, Nat.sub_zero]
  by_cases h : i ≤ xs.length
  · rw [Nat.min_eq_left h]
  · rw [Nat.min_eq_right (by omega), List.take_length, List.take_of_length_le (by omega)]
theorem cut_hi (xs : List V) (i : Nat) : cutV xs (some (i : Int)) none = xs.drop i := by
  unfold cutV
  rw [HT.sIx_none, HT.sIx_nat]
  by_cases h : i ≤ xs.length
  · rw [Nat.min_eq_left h, List.take_of_length_le (by rw [List.length_drop]; omega)]
  · rw [Nat.min_eq_right (by omega), Nat.sub_self, List.take_zero, List.drop_of_length_le (by omega)]
theorem plcGo_take (j : Int) {ns : List Int} {i : Nat} {n : Int} (h : ns[i]? = some n) : plc j (ns.take (i + 1)) = plc j (ns.take i) ++ if j < n then [i] else [] := by
  have hi := (List.getElem?_eq_some_iff.mp h).1
  rw [List.take_add_one, h]
  show plc j (ns.take i ++ [n]) = _
  rw [plc_snoc, List.length_take, Nat.min_eq_left (by omega)]
theorem plc_len (j : Int) : ∀ ns : List Int, (plc j ns).length ≤ ns.length := by
  have gen : ∀ (ns : List Int) (k : Nat), (plcGo j k ns).length ≤ ns.length := by
    intro ns
    induction ns with
    | nil => intro k; exact Nat.le_refl _
    | cons n ns ih =>
      intro k
      rw [plcGo, List.length_append, List.length_cons]
      have := ih (k + 1)
      split <;> simp <;> omega
  exact fun ns => gen ns 0
theorem _root_.L2.Same.put {H H' : Hp} {L : Addr} {o : HO} (e : Same H H') (h : H L = none) : Same H (upd H' L o) := fun b u eb => by
  rw [upd_ne (ne_of_none eb h)]
  exact e _ _ eb
def natV (ks : List Nat) : List V := ks.map fun i => V.int (i : Nat)
theorem natV_dp {K : PySem.W.Frag} {H : Hp} (ks : List Nat) : DpAll K H (natV ks) ((ks.map fun i => ((i : Nat) : Int)).map PyData.int) := by
  have := dp_ints (K := K) (H := H) (ks.map fun i => ((i : Nat) : Int))
  rw [List.map_map] at this
  exact this
theorem shaped_lst (ns : List Int) : SeqAt.shaped (dLst ns) = true := by
  have lay : ∀ ns : List Int, PyData.canLayAll0 (ns.map PyData.int) = true := by
    intro ns
    induction ns with
    | nil => rfl
    | cons n ns ih => simp [PyData.canLayAll0, PyData.canLay0, ih]
  have dep : ∀ ns : List Int, PyData.depthAll (ns.map PyData.int) = 0 := by
    intro ns
    induction ns with
    | nil => rfl
    | cons n ns ih => simp [PyData.depthAll, PyData.depth, ih]
  show (PyData.canLay0 (dLst ns) && decide (PyData.depth (dLst ns) ≤ 64)) = true
  simp only [dLst, PyData.canLay0, lay, PyData.depth, dep]
  decide
theorem eqv_lst (ns ms : List Int) : PyData.eqv (dLst ns) (dLst ms) = decide (ns = ms) := by
  show PyData.eqvAll _ _ = _
  exact eqv_ints ns ms
theorem le_sum : ∀ {ns : List Int}, (∀ n ∈ ns, 0 < n) → ∀ n ∈ ns, 0 ≤ ns.sum - n
  | [], _, n, h => by cases h
  | x :: xs, p, n, h => by
    rw [List.sum_cons]
    have px : ∀ n ∈ xs, 0 < n := fun m hm => p m (by simp [hm])
    have s0 : 0 ≤ xs.sum := by
      cases xs with
      | nil => simp
      | cons y ys =>
        have := le_sum px y (by simp)
        have := px y (by simp)
        omega
    rcases List.mem_cons.mp h with rfl | h
    · omega
    · have := le_sum px n h
      have := p x (by simp)
      omega
theorem nat_inj {ks ms : List Nat} : (ks.map fun i => ((i : Nat) : Int)) = (ms.map fun i => ((i : Nat) : Int)) ↔ ks = ms := by
  constructor
  · intro h
    exact (List.map_inj_right (fun _ _ e => by omega)).mp h
  · rintro rfl
    rfl
end G0

namespace G0
/-! ### rows and their lengths -/
def cnt (j : Int) : List Int → Nat
  | [] => 0
  | n :: ns => (if j < n then 1 else 0) + cnt j ns
def atN (i : Int) : Nat → List Int → Nat
  | _, [] => 0
  | k, z :: zs => (if (k : Int) ≤ i ∧ i < (k : Int) + z then 1 else 0) + atN i (k + 1) zs
def sizesI (ns : List Int) (m : Nat) : List Int := (List.range' 0 m).map fun j => ((cnt ((j : Nat) : Int) ns : Nat) : Int)
def rowOf (zs : List Int) (n : Nat) : List Int := (List.range' 0 n).map fun i => ((atN ((i : Nat) : Int) 0 zs : Nat) : Int)
theorem cnt_plc (j : Int) : ∀ (ns : List Int) (k : Nat), (plcGo j k ns).length = cnt j ns
  | [], k => rfl
  | n :: ns, k => by
    unfold plcGo cnt
    rw [List.length_append, cnt_plc j ns]
    by_cases h : j < n
    · rw [if_pos h, if_pos h]
      rfl
    · rw [if_neg h, if_neg h]
      rfl
theorem plc_cnt (j : Int) (ns : List Int) : (plc j ns).length = cnt j ns := cnt_plc j ns 0
theorem plcGo_at (j : Int) : ∀ (ns : List Int) (k i : Nat), i ∈ plcGo j k ns ↔ k ≤ i ∧ ∃ n, ns[i - k]? = some n ∧ j < n
  | [], k, i => by simp [plcGo]
  | n :: ns, k, i => by
    unfold plcGo
    rw [List.mem_append, plcGo_at j ns (k + 1) i]
    by_cases e : i = k
    · subst e
      by_cases h : j < n
      · simp [h]
      · simp [h]
        omega
    · have s : ∀ h : k < i, (n :: ns)[i - k]? = ns[i - (k + 1)]? := fun h => by
        rw [show i - k = (i - (k + 1)) + 1 by omega, List.getElem?_cons_succ]
      by_cases h : j < n
      · rw [if_pos h, List.mem_singleton]
        constructor
        · rintro (h1 | ⟨h1, m, h2, h3⟩)
          · exact absurd h1 e
          · exact ⟨by omega, m, by rw [s (by omega)]; exact h2, h3⟩
        · rintro ⟨h1, m, h2, h3⟩
          exact .inr ⟨by omega, m, by rw [← s (by omega)]; exact h2, h3⟩
      · rw [if_neg h]
        constructor
        · rintro (h1 | ⟨h1, m, h2, h3⟩)
          · cases h1
          · exact ⟨by omega, m, by rw [s (by omega)]; exact h2, h3⟩
        · rintro ⟨h1, m, h2, h3⟩
          exact .inr ⟨by omega, m, by rw [← s (by omega)]; exact h2, h3⟩
theorem plc_at (j : Int) (ns : List Int) (i : Nat) : i ∈ plc j ns ↔ ∃ n, ns[i]? = some n ∧ j < n := by
  unfold plc
  rw [plcGo_at]
  simp
theorem plcGo_up (j : Int) : ∀ (ns : List Int) (k : Nat), (plcGo j k ns).Pairwise (· < ·)
  | [], k => .nil
  | n :: ns, k => by
    unfold plcGo
    rw [List.pairwise_append]
    refine ⟨?_, plcGo_up j ns (k + 1), fun a ha b hb => ?_⟩
    · split <;> simp
    · have := (plcGo_mem j ns (k + 1) b hb).1
      split at ha
      · have := List.mem_singleton.mp ha
        omega
      · cases ha
theorem range_up : ∀ (n k : Nat), (List.range' k n).Pairwise (· < ·)
  | 0, k => .nil
  | n + 1, k => by
    rw [List.range'_succ]
    refine .cons (fun a ha => ?_) (range_up n (k + 1))
    have := (List.mem_range'_1.mp ha).1
    omega
theorem up_ext : ∀ {xs ys : List Nat}, xs.Pairwise (· < ·) → ys.Pairwise (· < ·) → (∀ a, a ∈ xs ↔ a ∈ ys) → xs = ys
  | [], [], _, _, _ => rfl
  | [], y :: ys, _, _, h => absurd ((h y).mpr (by simp)) (by simp)
  | x :: xs, [], _, _, h => absurd ((h x).mp (by simp)) (by simp)
  | x :: xs, y :: ys, hx, hy, h => by
    have hx1 := List.pairwise_cons.mp hx
    have hy1 := List.pairwise_cons.mp hy
    have e : x = y := by
      rcases List.mem_cons.mp ((h x).mp (by simp)) with e | m
      · exact e
      · rcases List.mem_cons.mp ((h y).mpr (by simp)) with e | m2
        · exact e.symm
        · have := hy1.1 x m
          have := hx1.1 y m2
          omega
    subst e
    rw [up_ext hx1.2 hy1.2 fun a => ?_]
    constructor
    · intro m
      have := hx1.1 a m
      rcases List.mem_cons.mp ((h a).mp (by simp [m])) with e | m2
      · omega
      · exact m2
    · intro m
      have := hy1.1 a m
      rcases List.mem_cons.mp ((h a).mpr (by simp [m])) with e | m2
      · omega
      · exact m2
/-- lengths as they can be -/
structure Len (zs : List Int) : Prop where
  ne : zs ≠ []
  pos : ∀ z ∈ zs, 0 < z
  dec : zs.Pairwise (· > ·)
  hi : ∀ z ∈ zs, z ≤ 9
  sum : zs.sum ≤ 24
theorem dec_gap : ∀ {zs : List Int} {z : Int}, (z :: zs).Pairwise (· > ·) → ∀ (j : Nat) (y : Int), zs[j]? = some y → y + (j : Int) + 1 ≤ z
  | [], z, _, j, y, h => by simp at h
  | x :: xs, z, hp, 0, y, h => by
    have e : x = y := by simpa using h
    have := (List.pairwise_cons.mp hp).1 x (by simp)
    omega
  | x :: xs, z, hp, j + 1, y, h => by
    have h2 := List.pairwise_cons.mp hp
    have := dec_gap h2.2 j y (by simpa using h)
    have := h2.1 x (by simp)
    omega
theorem atN_lt (i : Int) : ∀ {zs : List Int}, zs.Pairwise (· > ·) → ∀ (k j : Nat), j < atN i k zs ↔ ∃ z, zs[j]? = some z ∧ (k : Int) + j ≤ i ∧ i < (k : Int) + j + z
  | [], _, k, j => by simp [atN]
  | z :: zs, hp, k, j => by
    have h2 := (List.pairwise_cons.mp hp).2
    have ih := atN_lt i h2 (k + 1)
    unfold atN
    by_cases c : (k : Int) ≤ i ∧ i < (k : Int) + z
    · rw [if_pos c]
      cases j with
      | zero =>
        simp
        omega
      | succ j =>
        have := ih j
        rw [List.getElem?_cons_succ, show (j + 1 < 1 + atN i (k + 1) zs) ↔ j < atN i (k + 1) zs by omega, this]
        constructor
        · rintro ⟨y, h1, h3, h4⟩
          exact ⟨y, h1, by omega, by omega⟩
        · rintro ⟨y, h1, h3, h4⟩
          exact ⟨y, h1, by omega, by omega⟩
    · rw [if_neg c]
      have z0 : atN i (k + 1) zs = 0 := by
        cases e : atN i (k + 1) zs with
        | zero => rfl
        | succ a =>
          obtain ⟨y, h1, h3, h4⟩ := (ih 0).mp (by omega)
          have := dec_gap hp 0 y h1
          omega
      rw [z0]
      constructor
      · intro h
        omega
      · rintro ⟨y, h1, h3, h4⟩
        cases j with
        | zero =>
          have e : z = y := by simpa using h1
          omega
        | succ j =>
          have := dec_gap hp j y (by simpa using h1)
          omega
theorem nat_ext {a b : Nat} (h : ∀ j, j < a ↔ j < b) : a = b := by
  have h1 := (h a)
  have h2 := (h b)
  omega
theorem sum_step (n : Int) : ∀ (m k : Nat), ((List.range' k m).map fun j => (if ((j : Nat) : Int) < n then (1 : Int) else 0)).sum = if n ≤ (k : Int) then 0 else if (k : Int) + m ≤ n then (m : Int) else n - k
  | 0, k => by
    simp
    omega
  | m + 1, k => by
    rw [List.range'_succ, List.map_cons, List.sum_cons, sum_step n m (k + 1)]
    split <;> split <;> split <;> (try split) <;> (try split) <;> omega
theorem sum_add {α : Type} (f g : α → Int) : ∀ xs : List α, (xs.map fun x => f x + g x).sum = (xs.map f).sum + (xs.map g).sum
  | [] => rfl
  | x :: xs => by
    rw [List.map_cons, List.sum_cons, sum_add f g xs, List.map_cons, List.map_cons, List.sum_cons, List.sum_cons]
    omega
theorem sum_cnt (m : Nat) : ∀ {ns : List Int}, (∀ n ∈ ns, 0 ≤ n ∧ n ≤ (m : Int)) → (sizesI ns m).sum = ns.sum
  | [], _ => by
    unfold sizesI cnt
    have : ∀ xs : List Nat, (xs.map fun _ => (((0 : Nat) : Int))).sum = 0 := fun xs => by
      induction xs with
      | nil => rfl
      | cons x xs ih => rw [List.map_cons, List.sum_cons, ih]; rfl
    exact this _
  | n :: ns, h => by
    have ih := sum_cnt m (ns := ns) fun x hx => h x (by simp [hx])
    have hn := h n (by simp)
    unfold sizesI at ih ⊢
    have e : (fun j : Nat => ((cnt ((j : Nat) : Int) (n :: ns) : Nat) : Int)) = fun j : Nat => (if ((j : Nat) : Int) < n then (1 : Int) else 0) + ((cnt ((j : Nat) : Int) ns : Nat) : Int) := by
      funext j
      have c : cnt ((j : Nat) : Int) (n :: ns) = (if ((j : Nat) : Int) < n then 1 else 0) + cnt ((j : Nat) : Int) ns := rfl
      rw [c]
      split <;> simp
    rw [e, sum_add, ih, sum_step, List.sum_cons]
    have : ((0 : Nat) : Int) = 0 := rfl
    split <;> (try split) <;> omega
theorem cnt_le (j : Int) : ∀ ns : List Int, cnt j ns ≤ ns.length
  | [] => Nat.le_refl _
  | n :: ns => by
    have := cnt_le j ns
    unfold cnt
    rw [List.length_cons]
    split <;> omega
theorem cnt_all (j : Int) : ∀ {ns : List Int}, (∀ n ∈ ns, j < n) → cnt j ns = ns.length
  | [], _ => rfl
  | n :: ns, h => by
    have := cnt_all j (ns := ns) fun x hx => h x (by simp [hx])
    unfold cnt
    rw [if_pos (h n (by simp)), this, List.length_cons]
    omega
theorem sizesI_at {ns : List Int} {m j : Nat} : (sizesI ns m)[j]? = if j < m then some ((cnt ((j : Nat) : Int) ns : Nat) : Int) else none := by
  unfold sizesI
  by_cases h : j < m
  · rw [if_pos h, List.getElem?_map, List.getElem?_range' h]
    simp
  · rw [if_neg h, List.getElem?_eq_none (by simp; omega)]
theorem rowOf_at {zs : List Int} {n i : Nat} : (rowOf zs n)[i]? = if i < n then some ((atN ((i : Nat) : Int) 0 zs : Nat) : Int) else none := by
  unfold rowOf
  by_cases h : i < n
  · rw [if_pos h, List.getElem?_map, List.getElem?_range' h]
    simp
  · rw [if_neg h, List.getElem?_eq_none (by simp; omega)]
/-- from a row to its lengths and back -/
theorem row_sizes {ns : List Int} (r : RowI ns) {m : Int} (hm : m ∈ ns) (mx : ∀ y ∈ ns, y ≤ m) : Len (sizesI ns m.toNat) ∧ rowOf (sizesI ns m.toNat) ns.length = ns ∧ (sizesI ns m.toNat).sum = ns.sum ∧ (sizesI ns m.toNat)[0]? = some (ns.length : Int) := by
  have m0 := r.pos m hm
  have pl : ∀ j : Nat, (j : Int) < m → plc (j : Int) ns = List.range' j (cnt (j : Int) ns) := fun j h => by
    rw [← plc_cnt]
    exact r.pl j ⟨m, hm, h⟩
  have sm : (sizesI ns m.toNat).sum = ns.sum := sum_cnt _ fun n hn => ⟨by have := r.pos n hn; omega, by have := mx n hn; omega⟩
  have c0 : ∀ j : Nat, (j : Int) < m → 0 < cnt (j : Int) ns := fun j h => by
    rw [← plc_cnt]
    exact List.length_pos_iff.mpr (plcGo_ne _ ns 0 ⟨m, hm, h⟩)
  have dec : (sizesI ns m.toNat).Pairwise (· > ·) := by
    unfold sizesI
    rw [List.pairwise_map]
    refine (range_up _ _).imp_of_mem ?_
    intro a b ha hb hab
    have b1 := (List.mem_range'_1.mp hb).2
    have pa := pl a (by omega)
    have pb := pl b (by omega)
    have cb := c0 b (by omega)
    have mem : b + cnt (b : Int) ns - 1 ∈ plc (b : Int) ns := by
      rw [pb, List.mem_range'_1]
      omega
    have mem2 : b + cnt (b : Int) ns - 1 ∈ plc (a : Int) ns := by
      obtain ⟨n, h1, h2⟩ := (plc_at _ _ _).mp mem
      exact (plc_at _ _ _).mpr ⟨n, h1, by omega⟩
    rw [pa, List.mem_range'_1] at mem2
    show ((cnt (a : Int) ns : Nat) : Int) > ((cnt (b : Int) ns : Nat) : Int)
    omega
  refine ⟨⟨?_, fun z hz => ?_, dec, fun z hz => ?_, by rw [sm]; exact r.sum⟩, ?_, sm, ?_⟩
  · intro z
    have := congrArg List.length z
    unfold sizesI at this
    simp at this
    omega
  · obtain ⟨j, hj, rfl⟩ := List.mem_map.mp hz
    have := (List.mem_range'_1.mp hj).2
    have := c0 j (by omega)
    omega
  · obtain ⟨j, hj, rfl⟩ := List.mem_map.mp hz
    have := cnt_le (j : Int) ns
    have := r.len
    omega
  · apply List.ext_getElem?
    intro i
    rw [rowOf_at]
    by_cases h : i < ns.length
    · rw [if_pos h, List.getElem?_eq_getElem h]
      have hp := r.pos _ (List.getElem_mem h)
      have hx := mx _ (List.getElem_mem h)
      have : atN (i : Int) 0 (sizesI ns m.toNat) = ns[i].toNat := nat_ext fun j => by
        rw [atN_lt _ dec]
        constructor
        · rintro ⟨z, h1, h2, h3⟩
          rw [sizesI_at] at h1
          split at h1
          · cases h1
            have hj : (j : Int) < m := by omega
            have mem : i ∈ plc (j : Int) ns := by
              rw [pl j hj, List.mem_range'_1]
              omega
            obtain ⟨n, g1, g2⟩ := (plc_at _ _ _).mp mem
            rw [List.getElem?_eq_getElem h] at g1
            cases g1
            omega
          · cases h1
        · intro hj
          have hj2 : (j : Int) < m := by omega
          have mem : i ∈ plc (j : Int) ns := (plc_at _ _ _).mpr ⟨ns[i], List.getElem?_eq_getElem h, by omega⟩
          rw [pl j hj2, List.mem_range'_1] at mem
          refine ⟨_, by rw [sizesI_at, if_pos (by omega)], by omega, by omega⟩
      rw [this]
      congr 1
      omega
    · rw [if_neg h, List.getElem?_eq_none (by omega)]
  · rw [sizesI_at, if_pos (by omega)]
    rw [show cnt ((0 : Nat) : Int) ns = ns.length from cnt_all 0 fun n hn => r.pos n hn]
/-- from lengths to the row and back -/
theorem sizes_row {zs : List Int} (l : Len zs) {n : Int} (hn : zs[0]? = some n) : RowI (rowOf zs n.toNat) ∧ rowOf zs n.toNat ≠ [] ∧ (∀ y ∈ rowOf zs n.toNat, y ≤ (zs.length : Int)) ∧ (zs.length : Int) ∈ rowOf zs n.toNat ∧ sizesI (rowOf zs n.toNat) zs.length = zs := by
  obtain ⟨z0, zs', rfl⟩ : ∃ z zs', zs = z :: zs' := by
    cases zs with
    | nil => exact absurd rfl l.ne
    | cons z zs' => exact ⟨z, zs', rfl⟩
  have e0 : z0 = n := by simpa using hn
  subst e0
  have p0 := l.pos z0 (by simp)
  have h9 := l.hi z0 (by simp)
  have gap : ∀ (j : Nat) (y : Int), (z0 :: zs')[j]? = some y → y + (j : Int) ≤ z0 := fun j y h => by
    cases j with
    | zero =>
      have e : z0 = y := by simpa using h
      omega
    | succ j =>
      have := dec_gap l.dec j y (by simpa using h)
      omega
  have at_ : ∀ (i j : Nat), j < atN (i : Int) 0 (z0 :: zs') ↔ ∃ z, (z0 :: zs')[j]? = some z ∧ (j : Int) ≤ i ∧ (i : Int) < (j : Int) + z := fun i j => by
    rw [atN_lt _ l.dec]
    simp
  have pl : ∀ (j : Nat) (z : Int), (z0 :: zs')[j]? = some z → plc (j : Int) (rowOf (z0 :: zs') z0.toNat) = List.range' j z.toNat := fun j z hz => by
    have zp := l.pos z (List.mem_of_getElem? hz)
    have zg := gap j z hz
    refine up_ext (plcGo_up _ _ _) (range_up _ _) fun i => ?_
    rw [plc_at, List.mem_range'_1]
    constructor
    · rintro ⟨y, h1, h2⟩
      rw [rowOf_at] at h1
      split at h1
      · cases h1
        obtain ⟨w, g1, g2, g3⟩ := (at_ i j).mp (by omega)
        rw [hz] at g1
        cases g1
        omega
      · cases h1
    · rintro ⟨h1, h2⟩
      refine ⟨_, by rw [rowOf_at, if_pos (by omega)], ?_⟩
      have := (at_ i j).mpr ⟨z, hz, by omega, by omega⟩
      omega
  have le : ∀ y ∈ rowOf (z0 :: zs') z0.toNat, 0 < y ∧ y ≤ ((z0 :: zs').length : Int) := fun y hy => by
    obtain ⟨i, hi, rfl⟩ := List.mem_map.mp hy
    have hi2 := (List.mem_range'_1.mp hi).2
    constructor
    · have := (at_ i 0).mpr ⟨z0, by simp, by omega, by omega⟩
      omega
    · have : atN (i : Int) 0 (z0 :: zs') ≤ (z0 :: zs').length := Nat.le_of_not_lt fun h => by
        obtain ⟨w, g1, _⟩ := (at_ i _).mp h
        simp at g1
      omega
  have sz : sizesI (rowOf (z0 :: zs') z0.toNat) (z0 :: zs').length = z0 :: zs' := by
    apply List.ext_getElem?
    intro j
    rw [sizesI_at]
    by_cases h : j < (z0 :: zs').length
    · rw [if_pos h, List.getElem?_eq_getElem h, ← plc_cnt, pl j _ (List.getElem?_eq_getElem h), List.length_range']
      have := l.pos _ (List.getElem_mem h)
      congr 1
      omega
    · rw [if_neg h, List.getElem?_eq_none (by omega)]
  have sm : (rowOf (z0 :: zs') z0.toNat).sum = (z0 :: zs').sum := by
    have := sum_cnt (z0 :: zs').length (ns := rowOf (z0 :: zs') z0.toNat) fun y hy => by
      have := le y hy
      omega
    rw [sz] at this
    exact this.symm
  have ln : (rowOf (z0 :: zs') z0.toNat).length = z0.toNat := by unfold rowOf; simp
  refine ⟨⟨by omega, fun y hy => (le y hy).1, by rw [sm]; exact l.sum, fun j hj => ?_⟩, fun e => ?_, fun y hy => (le y hy).2, ?_, sz⟩
  · obtain ⟨y, hy, hj⟩ := hj
    obtain ⟨i, hi, rfl⟩ := List.mem_map.mp hy
    obtain ⟨w, g1, _⟩ := (at_ i j).mp (by omega)
    rw [pl j w g1, List.length_range']
  · have := congrArg List.length e
    rw [ln] at this
    simp at this
    omega
  · have hlast : (z0 :: zs')[zs'.length]? = some ((z0 :: zs')[zs'.length]'(by simp)) := List.getElem?_eq_getElem _
    have wp := l.pos _ (List.mem_of_getElem? hlast)
    have wg := gap _ _ hlast
    refine List.mem_map.mpr ⟨zs'.length, List.mem_range'_1.mpr ⟨by omega, by omega⟩, ?_⟩
    have h1 := (at_ zs'.length zs'.length).mpr ⟨_, hlast, by omega, by omega⟩
    have h2 := (le _ (List.mem_map.mpr ⟨zs'.length, List.mem_range'_1.mpr ⟨by omega, by omega⟩, rfl⟩)).2
    rw [List.length_cons] at h2 ⊢
    omega
end G0

namespace G0
open PySem PySem.Spec PyProof.Rows L2
/-! ### sum, max over a list or a tuple -/
section
variable {X : Cx}
theorem tup_iter {h : Heap} {a : Addr} {items : Array Value} (hT : h.IsTuple a items) : ∀ b ∈ [h.objs.size, a], b < (h.push (iterO false a)).objs.size := by
  obtain ⟨o1, ho1, _⟩ := hT
  have := Heap.lt_size ho1
  intro b hb
  rw [Heap.size_push]
  simp only [List.mem_cons, List.not_mem_nil, or_false] at hb
  rcases hb with rfl | rfl
  · exact Nat.lt_succ_self _
  · exact Nat.lt_succ_of_lt this
def rSumA (K : PySem.W.Frag) : List V → Hp → VK → Prop := fun vs H Q => ∃ (a : Addr) (ns : List Int), vs = [V.ref a] ∧ Sq K H a (ns.map V.int) ∧ Q (.int ns.sum) H
theorem cr_sumA (calm : X.calm = true) : CallR X (.builtin "sum") (rSumA X.K) := by
  intro pn s σ H vs us Q J r h
  obtain ⟨a, ns, rfl, hs | hs, q⟩ := h
  · exact cr_sum calm pn s σ H _ us Q J r ⟨a, ns, rfl, hs, q⟩
  · rw [Vals.ref1 r]
    obtain ⟨its, rv, hl, _⟩ := J.tuple hs
    obtain ⟨o1, ho1, hc1, n1, hd1⟩ := hl
    have hT : s.heap.IsTuple a its.toArray := ⟨o1, ho1, hc1, n1, hd1⟩
    have hlt : a < s.heap.objs.size := Heap.lt_size ho1
    obtain ⟨xs, e⟩ := rv.ints.allInts.items
    have hn : numsOf (intItems xs).toList = ns := by rw [← e]; exact rv.ints.numsOf
    rw [nums_intItems] at hn
    rw [e] at hT
    refine call_sum_walkG (wpAny_pyIter_tuple hT ?_)
    refine ⟨_, _, _, _, _, _, numAt xs, rfl, Walks.tuple (A := X.A.in1) (J.ok.hd calm) _ a (Nat.ne_of_lt hlt) (intItems xs), ⟨⟨_, Heap.get?_push_size _ rfl, rfl, rfl⟩, hT.push _⟩, ?_, (fun _ _ => intItems_at), fun h2 tk t' hk => ?_⟩
    · exact tup_iter hT
    · refine ⟨.int ns.sum, H, J.kept fun b o eo => hk b o (fun mem => ?_) (Heap.get?_push_of_some _ eo), ⟨t', ?_⟩, q⟩
      · rcases List.mem_cons.mp mem with e1 | mem
        · exact absurd (e1 ▸ Heap.lt_size eo) (Nat.lt_irrefl _)
        · cases mem
      · rw [preSum_eq, List.take_of_length_le (by simp [intItems]), hn]
def rMaxA (K : PySem.W.Frag) : List V → Hp → VK → Prop := fun vs H Q => ∃ (a : Addr) (ns : List Int), vs = [V.ref a] ∧ Sq K H a (ns.map V.int) ∧ 0 < ns.length ∧ ∀ m, m ∈ ns → (∀ y, y ∈ ns → y ≤ m) → Q (.int m) H
theorem cr_maxA (calm : X.calm = true) : CallR X (.builtin "max") (rMaxA X.K) := by
  intro pn s σ H vs us Q J r h
  obtain ⟨a, ns, rfl, hs | hs, hne, q⟩ := h
  · exact cr_max calm pn s σ H _ us Q J r ⟨a, ns, rfl, hs, hne, q⟩
  · rw [Vals.ref1 r]
    obtain ⟨its, rv, hl, _⟩ := J.tuple hs
    obtain ⟨o1, ho1, hc1, n1, hd1⟩ := hl
    have hT : s.heap.IsTuple a its.toArray := ⟨o1, ho1, hc1, n1, hd1⟩
    have hlt : a < s.heap.objs.size := Heap.lt_size ho1
    obtain ⟨xs, e⟩ := rv.ints.allInts.items
    have hn : numsOf (intItems xs).toList = ns := by rw [← e]; exact rv.ints.numsOf
    rw [nums_intItems] at hn
    subst hn
    rw [e] at hT
    have hsz : 0 < xs.size := by simpa using hne
    refine call_max_walk (wpAny_pyIter_tuple hT ?_)
    refine ⟨_, _, _, _, _, _, _, rfl, Walks.tuple (A := X.A.in1) (J.ok.hd calm) _ a (Nat.ne_of_lt hlt) (intItems xs), ⟨⟨_, Heap.get?_push_size _ rfl, rfl, rfl⟩, hT.push _⟩, tup_iter hT, by simpa [intItems] using hsz, CmpOf.ints_gt (numAt xs) (fun _ _ => intItems_at), fun v h2 tk hP hk => ?_⟩
    obtain ⟨t, rfl⟩ := intItems_at hP
    obtain ⟨h1, h2'⟩ := argBest_gt (numAt xs) (xs.size - 1)
    have esz : (intItems xs).size = xs.size := by simp [intItems]
    rw [esz]
    refine ⟨.int _, H, J.kept fun b o eo => hk b o (fun mem => ?_) (Heap.get?_push_of_some _ eo), ⟨t, rfl⟩, q _ ?_ fun y hy => ?_⟩
    · rcases List.mem_cons.mp mem with e1 | mem
      · exact absurd (e1 ▸ Heap.lt_size eo) (Nat.lt_irrefl _)
      · cases mem
    · rw [numAt_eq]
      exact PySem.getD_mem (by rw [List.length_map, Array.length_toList]; omega)
    · obtain ⟨j, hj, rfl⟩ := mem_getD hy
      rw [List.length_map, Array.length_toList] at hj
      rw [← numAt_eq]
      exact h2' j (by omega)
end
end G0

set_option pp.oneline true
namespace G0
open PySem PySem.Spec PyProof.Rows L2
theorem atN_snoc (i : Int) : ∀ (xs : List Int) (p : Nat) (z : Int), atN i p (xs ++ [z]) = atN i p xs + (if ((p + xs.length : Nat) : Int) ≤ i ∧ i < ((p + xs.length : Nat) : Int) + z then 1 else 0)
  | [], p, z => by simp [atN]
  | x :: xs, p, z => by
    rw [List.cons_append]
    show (if _ then 1 else 0) + atN i (p + 1) (xs ++ [z]) = (if _ then 1 else 0) + atN i (p + 1) xs + _
    rw [atN_snoc i xs (p + 1) z, List.length_cons, show p + 1 + xs.length = p + (xs.length + 1) by omega]
    omega
theorem atN_take (i : Int) {zs : List Int} {k : Nat} {z : Int} (h : zs[k]? = some z) : atN i 0 (zs.take (k + 1)) = atN i 0 (zs.take k) + (if (k : Int) ≤ i ∧ i < (k : Int) + z then 1 else 0) := by
  have hk := (List.getElem?_eq_some_iff.mp h).1
  rw [List.take_add_one, h]
  show atN i 0 (zs.take k ++ [z]) = _
  rw [atN_snoc, List.length_take, Nat.min_eq_left (by omega), Nat.zero_add]
theorem atN_le (i : Int) : ∀ (zs : List Int) (k : Nat), atN i k zs ≤ zs.length
  | [], k => Nat.le_refl _
  | z :: zs, k => by
    have := atN_le i zs (k + 1)
    unfold atN
    rw [List.length_cons]
    split <;> omega
theorem ix_sq {K : PySem.W.Frag} {H : Hp} {Q : VK} {p : Addr} {xs : List V} {i : Int} {v : V} (h : Sq K H p xs) (a : atI xs i = some v) (q : Q v H) : rIxL K (.ref p) (.int i) H Q ∨ rIxT K (.ref p) (.int i) H Q :=
  h.imp (fun h => ⟨p, xs, i, v, rfl, rfl, h, a, q⟩) fun h => ⟨p, xs, i, v, rfl, rfl, h, a, q⟩
theorem walk_zipT' {K : PySem.W.Frag} {a b : Addr} {xs ys : List V} {n : Nat} (hn : n = min xs.length ys.length) : Walk (RZ.ItzT K a b) n (fun H => SqT K H a xs ∧ SqT K H b ys) (YPair (fun i => xs[i]?) (fun i => ys[i]?)) where
  goes i _ hi q := ⟨xs, ys, xs[i]'(by omega), ys[i]'(by omega), q.1, q.2, by simp, by simp⟩
  stops _ q := ⟨xs, ys, q.1, q.2, by omega⟩
  yields _ _ _ _ _ q y := by
    obtain ⟨T, x, z, e1, e2, e3, e4, e5⟩ := y
    exact ⟨T, x, z, e1, e2, e3, e4 _ q.1, e5 _ q.2⟩
def LenB (ns : List Int) : Bool := decide (0 < ns.length) && ns.all (fun n => decide (0 < n)) && decide (ns.Pairwise (· > ·)) && decide (ns.headD 0 ≤ 9) && decide (ns.sum ≤ 24)
theorem len_iff (ns : List Int) : LenB ns = true ↔ Len ns := by
  unfold LenB
  simp only [Bool.and_eq_true, decide_eq_true_eq, List.all_eq_true]
  constructor
  · rintro ⟨⟨⟨⟨h1, h2⟩, h3⟩, h4⟩, h5⟩
    refine ⟨List.length_pos_iff.mp h1, h2, h3, fun z hz => ?_, h5⟩
    cases ns with
    | nil => cases hz
    | cons x xs =>
      have h4 : x ≤ 9 := h4
      rcases List.mem_cons.mp hz with rfl | hz
      · exact h4
      · have := (List.pairwise_cons.mp h3).1 z hz
        omega
  · rintro ⟨h1, h2, h3, h4, h5⟩
    refine ⟨⟨⟨⟨List.length_pos_iff.mpr h1, h2⟩, h3⟩, ?_⟩, h5⟩
    cases ns with
    | nil => exact absurd rfl h1
    | cons x xs => exact h4 x (by simp)
theorem pair_dec : ∀ ns : List Int, ns.Pairwise (· > ·) ↔ ∀ (i : Nat) (a b : Int), ns[i]? = some a → ns[i + 1]? = some b → a > b := by
  intro ns
  induction ns with
  | nil => simp
  | cons x xs ih =>
    constructor
    · intro h i a b ha hb
      have h2 := List.pairwise_cons.mp h
      cases i with
      | zero =>
        have e : x = a := by simpa using ha
        rw [← e]
        exact h2.1 b (List.mem_of_getElem? (by simpa using hb))
      | succ i => exact (ih.mp h2.2) i a b (by simpa using ha) (by simpa using hb)
    · intro h
      have h2 := ih.mpr fun i a b ha hb => h (i + 1) a b (by simpa using ha) (by simpa using hb)
      refine List.pairwise_cons.mpr ⟨fun b hb => ?_, h2⟩
      cases xs with
      | nil => cases hb
      | cons y ys =>
        have hxy := h 0 x y rfl rfl
        rcases List.mem_cons.mp hb with rfl | hb
        · exact hxy
        · have := (List.pairwise_cons.mp h2).1 b hb
          omega
end G0

set_option pp.oneline true
namespace G0
open PySem PySem.Spec PyProof.Rows L2
abbrev s_check_row : Stmt := top 20
abbrev s_lengths : Stmt := top 38
theorem lenK {X : Cx} {K : PySem.W.Frag} (h : X.K = K) : CallR X (.builtin "len") (fun xs H Q => ∃ (p : Addr) (ys : List V), xs = [V.ref p] ∧ Sq K H p ys ∧ Q (V.int ((ys.length : Nat) : Int)) H) := by
  subst h
  exact call_len_seq
theorem pi_anyK {X : Cx} {K : PySem.W.Frag} (h : X.K = K) {tg l : Expr} {tl : TE} (hl : PE X l tl) : PI X tg l (iAny K tl) := by
  subst h
  exact pi_any hl
theorem pi_listK {X : Cx} {K : PySem.W.Frag} (h : X.K = K) {tg l : Expr} {tl : TE} (hl : PE X l tl) : PI X tg l (iList K tl) := by
  subst h
  exact pi_list hl
theorem ixK {X : Cx} {K : PySem.W.Frag} (h : X.K = K) : IxR X (rIxL K) := by
  subst h
  exact ix_list
theorem pi_EK {X : Cx} {K : PySem.W.Frag} (b : Bool) (h : X.K = K) {e : Expr} {ta : TA} {p pos tpos : Pos} {elts : List Expr} {kk : Nat} (gl : Gl X "enumerate") (no : X.mg "enumerate" = none) (pa : PA X [e] ta) (st : starEach [e] X.env = [(false, eval e X.env)] := by rfl) :
    PI X (.Tuple elts kk tpos) (.Call (.Name "enumerate" p) [e] [] pos) (iE b K ta) := by
  subst h
  exact pi_E b gl no pa st
/-- a comprehension over a list or a tuple -/
theorem lc_any {K : PySem.W.Frag} {tl : TE} {g : TG} {tt : TT} {te : TE} {vs : List Nat} {σ : L2.St} {H1 : Hp} {Q : VK} {a : Addr} {xs : List V} (hv : ∀ R : VK, R (.ref a) H1 → tl σ H1 R) (hs : Sq K H1 a xs) (Pv : Addr → Nat → Hp → Prop)
    (h0 : ∀ D, H1 D = none → Pv D 0 (upd H1 D (.lst []))) (st : ∀ D k H, Pv D k H → Same H1 H)
    (ht : ∀ D, H1 D = none → ∀ k x H, xs[k]? = some x → Pv D k H → g x (wipe σ vs) H fun σ2 H2 => wipe σ2 vs = wipe σ vs ∧ tt σ2 H2 fun b H3 => if b = true then te σ2 H3 fun y H4 => ∃ acc, H4 D = some (.lst acc) ∧ acc.length < sizeLine ∧ Pv D (k + 1) (upd H4 D (.lst (acc ++ [y]))) else Pv D (k + 1) H3)
    (hd : ∀ D H, H1 D = none → Pv D xs.length H → Q (.ref D) H) : tLc (iAny K tl) g tt te vs σ H1 Q := by
  rcases hs with hs | hs
  · exact .inl (hv _ ⟨a, rfl, ⟨_, hs⟩, fun D hD => lc_list (xs := xs) (Pv D) (h0 D hD) (fun k H _ h => (st D k H h).seq hs) (ht D hD) fun H h => hd D H hD h⟩)
  · exact .inr (hv _ ⟨a, rfl, ⟨_, hs⟩, fun D hD => lc_tup (xs := xs) (Pv D) (h0 D hD) (fun k H _ h => same_t (st D k H h) hs) (ht D hD) fun H h => hd D H hD h⟩)
theorem cnt_app (j : Int) : ∀ (xs ys : List Int), cnt j (xs ++ ys) = cnt j xs + cnt j ys
  | [], ys => by simp [cnt]
  | x :: xs, ys => by
    rw [List.cons_append]
    show (if _ then 1 else 0) + cnt j (xs ++ ys) = (if _ then 1 else 0) + cnt j xs + cnt j ys
    rw [cnt_app j xs ys]
    omega
theorem cnt_take (j : Int) {ns : List Int} {k : Nat} {n : Int} (h : ns[k]? = some n) : cnt j (ns.take (k + 1)) = cnt j (ns.take k) + (if j < n then 1 else 0) := by
  rw [List.take_add_one, h]
  show cnt j (ns.take k ++ [n]) = _
  rw [cnt_app]
  simp [cnt]
theorem rowB_true {ns : List Int} (ne : ns ≠ []) (lo : ∀ n ∈ ns, 0 ≤ n) (hf : ff ns = none) : AV.isRowB (.seq (ns.map AV.int)) = true := by
  show (decide (0 < (ns.map AV.int).length) && (ns.map AV.int).all AV.isCnt && (ff ((ns.map AV.int).map AV.num)).isNone) = true
  rw [cnt_ints lo, List.length_map, decide_eq_true (List.length_pos_iff.mpr ne), back_ints, hf]
  rfl
section
variable {P : Program} {w : World} {K : PySem.W.Frag} {mg : Str → Option Value} {base : Heap}
def sp_chk (K : PySem.W.Frag) : Sp := fun vs H Q _ => ∃ (a : Addr) (ns : List Int), vs = [.ref a] ∧ Sq K H a (ns.map V.int) ∧ ns ≠ [] ∧ RowI ns ∧ ∀ H', Same H H' → Q .non H'
theorem sc_chk : FnScope ["row"] ["row"] (defScope s_check_row) := ⟨rfl, rfl, rfl, by decide +kernel, rfl, by decide +kernel, by decide +kernel⟩
theorem ok_chk {f f1 : Addr} {fd fd1 : FuncData} (F : Fun K "check_row" "check_row" s_check_row f fd) (Drow : Df K mg "is_row" s_is_row ["value"] f1 fd1) (Grow : FnOk P w K mg base CX0 4 f1 fd1 ["value"] (sp_rowA K)) : FnOk P w K mg base CX0 5 f fd ["row"] (sp_chk K) := by
  refine F.ok sc_chk (fun vs H Q E h => ?_) (fun cdv A outer s H vs Q E hr h => ?_)
  · obtain ⟨a, ns, rfl, _⟩ := h
    rfl
  · obtain ⟨a, ns, rfl, hs, ne, r, q⟩ := h
    refine ⟨_, pss_one (ps_if (pt_not (pt_val (pdf Drow Grow hr (pa_cons (pv 0) pa_nil)))) (pss_one ps_never) pss_nil), ?_⟩
    have hl := r.len
    refine ⟨_, rfl, _, _, rfl, av_ints hs, fun xs e => ?_, fun H1 s1 => ?_⟩
    · cases e
      rw [List.length_map]
      omega
    · rw [rowB_true ne (fun n hn => by have := r.pos n hn; omega) ((row_iff ns).mp r)]
      exact ⟨true, rfl, iteF (q _ s1)⟩
def sp_lens (K : PySem.W.Frag) : Sp := fun vs H Q _ => ∃ (a : Addr) (ns : List Int), vs = [.ref a] ∧ Sq K H a (ns.map V.int) ∧ ns ≠ [] ∧ RowI ns ∧
  ∀ (m : Int), m ∈ ns → (∀ y ∈ ns, y ≤ m) → ∀ H' L, Same H H' → H L = none → H' L = some (.lst ((sizesI ns m.toNat).map V.int)) → Q (.ref L) H'
theorem sc_lens : FnScope ["row", "least", "number"] ["row"] (defScope s_lengths) := ⟨rfl, rfl, rfl, by decide +kernel, rfl, by decide +kernel, by decide +kernel⟩
theorem ok_lens {f f1 : Addr} {fd fd1 : FuncData} (F : Fun K "lengths" "lengths" s_lengths f fd) (B : Blt mg) (Dchk : Df K mg "check_row" s_check_row ["row"] f1 fd1) (Gchk : FnOk P w K mg base CX0 5 f1 fd1 ["row"] (sp_chk K)) : FnOk P w K mg base CX0 6 f fd ["row"] (sp_lens K) := by
  refine F.ok sc_lens (fun vs H Q E h => ?_) (fun cdv A outer s H vs Q E hr h => ?_)
  · obtain ⟨a, ns, rfl, _⟩ := h
    rfl
  · obtain ⟨a, ns, rfl, hs, ne, r, q⟩ := h
    refine ⟨_, pss_cons (ps_expr (pdf Dchk Gchk hr (pa_cons (pv 0) pa_nil)))
      (pss_one (ps_ret (pe_lc (own := [("least", 1)]) (g := gName 1) (tt := tYes) rfl sc_lens.nd (pi_range1 (by rfl) B.range (pa_cons (pe_callB (cr_maxA rfl) (by rfl) B.max boot_max (pa_cons (pv 0) pa_nil)) pa_nil)) (blkOk_by (N := ["row", "least", "number"]) (sc := defScope s_lengths) (by decide +kernel)) (fun _ _ _ _ _ => pg_name (i := 1) sc_lens.nd rfl (Or.inr rfl)) (fun _ _ _ _ _ => pts_nil) (fun _ _ _ _ _ => (pe_callB (lenK (K := K) rfl) (by rfl) B.len PySem.boot_len (pa_cons (pe_lc (own := [("number", 2)]) (g := gName 2) rfl sc_lens.nd (pi_anyK (K := K) rfl (pv 0)) (blkOk_by (by kernel_rfl)) (fun _ _ _ _ _ => pg_name (i := 2) sc_lens.nd rfl (Or.inl rfl)) (fun _ _ _ _ _ => pts_one (pt_cmpR op_gt (pv 2) (pv 1) (nomark _))) (fun _ _ _ _ _ => (pv 2))) pa_nil)))))), ?_⟩
    have len : (ns.map V.int).length = ns.length := List.length_map ..
    have l9 := r.len
    refine ⟨_, rfl, a, ns, rfl, hs, ne, r, fun H1 s1 => ?_⟩
    refine ⟨_, rfl, a, ns, rfl, hs.same s1, List.length_pos_iff.mpr ne, fun m mm mx => ?_⟩
    have m0 := r.pos m mm
    have m9 := row_le r m mm
    refine ⟨m, rfl, by omega, by omega, fun L hL => lc_range (n := m.toNat) (fun j H2 => Same H1 H2 ∧ H2 L = some (.lst (((List.range' 0 j).map fun j => ((cnt ((j : Nat) : Int) ns : Nat) : Int)).map V.int))) ⟨same_new hL, upd_same⟩ ?_ ?_⟩
    · rintro j H2 hj ⟨s2, h2⟩
      refine ⟨rfl, yes_ite ?_⟩
      have e0 : (0 : Int) + (j : Nat) = (j : Nat) := by omega
      rw [e0]
      unfold tCB tCons
      dsimp only
      refine lc_any (K := K) (a := a) (xs := ns.map V.int) (fun R r => ⟨_, rfl, r⟩) (hs.same (s1.trans s2)) (fun D k H3 => Same H2 H3 ∧ ∃ acc, H3 D = some (.lst acc) ∧ acc.length = cnt (j : Int) (ns.take k)) (fun D hD => ⟨same_new hD, [], upd_same, rfl⟩) (fun D k H3 h => h.1) (fun D hD k x H3 hx h => ?_) (fun D H3 hD h => ?_)
      · obtain ⟨s3, acc, h3, el⟩ := h
        obtain ⟨n, hn, rfl⟩ : ∃ n, ns[k]? = some n ∧ x = V.int n := by
          rw [List.getElem?_map] at hx
          cases e : ns[k]? with
          | none => rw [e] at hx; cases hx
          | some n => rw [e] at hx; cases hx; exact ⟨n, rfl, rfl⟩
        have ct := cnt_take (j : Int) hn
        have cl := cnt_le (j : Int) (ns.take k)
        rw [List.length_take] at cl
        refine ⟨rfl, _, rfl, _, rfl, _, _, rfl, rfl, _, rfl, ?_⟩
        by_cases c : (j : Int) < n
        · rw [decide_eq_true c]
          rw [if_pos c] at ct
          exact iteT ⟨_, rfl, acc, h3, by rw [sizeLine_eq]; omega, s3.put hD, _, upd_same, by rw [List.length_append, el, ct]; rfl⟩
        · rw [decide_eq_false c]
          rw [if_neg c] at ct
          exact iteF ⟨s3, acc, h3, by rw [el, ct]; rfl⟩
      · obtain ⟨s3, acc, h3, el⟩ := h
        rw [len, List.take_length] at el
        refine ⟨D, acc, rfl, .inl (SqL.mk h3), _, s3 _ _ h2, by rw [List.length_map, List.length_map, List.length_range', sizeLine_eq]; omega, (s2.trans s3).put hL, ?_⟩
        rw [upd_same, List.range'_concat, List.map_append, List.map_append, el]
        show some (HO.lst (_ ++ [V.int ((cnt (j : Int) ns : Nat) : Int)])) = some (HO.lst (_ ++ [V.int ((cnt (((0 + 1 * j : Nat) : Nat) : Int) ns : Nat) : Int)]))
        rw [show 0 + 1 * j = j by omega]
    · rintro H2 ⟨s2, h2⟩
      exact q m mm mx H2 L (s1.trans s2) (s1.free hL) h2
end
end G0

namespace G0
open PySem PySem.Spec PyProof.Rows L2
abbrev s_divisor : Stmt := top 27
abbrev s_plain : Stmt := top 28
abbrev s_is_three : Stmt := top 30
abbrev s_is_point : Stmt := top 33
abbrev s_told_point : Stmt := top 34
section
variable {P : Program} {w : World} {K : PySem.W.Frag} {mg : Str → Option Value} {base : Heap}
def sp_is_integer : Sp := fun vs H Q _ => ∃ n : Int, vs = [.int n] ∧ Q (.bl true) H
theorem ok_is_integer {f : Addr} {fd : FuncData} (F : Fun K "is_integer" "is_integer" s_is_integer f fd) (B : Blt mg) : FnOk P w K mg base CX0 1 f fd ["value"] sp_is_integer := by
  refine F.ok sc_is_integer (fun vs H Q E h => ?_) (fun cdv A outer s H vs Q E hr h => ?_)
  · obtain ⟨n, rfl, _⟩ := h
    rfl
  · obtain ⟨n, rfl, q⟩ := h
    refine ⟨_, pss_one (ps_ret (pe_and (pe_callB call_isi (by rfl) B.isinstance boot_isi (pa_cons (pv 0) (pa_cons (pty B.int boot_tint) pa_nil)))
      (pe_one (pe_not (pe_callB call_isi (by rfl) B.isinstance boot_isi (pa_cons (pv 0) (pa_cons (pty B.bool boot_tbool) pa_nil))))))), ?_⟩
    refine ⟨_, rfl, _, _, _, _, true, rfl, .ty "int", .base (.int n), kit_ii, true, rfl, iteT ?_⟩
    exact ⟨_, rfl, _, _, _, _, false, rfl, .ty "bool", .base (.int n), kit_ib, false, rfl, q⟩

/-! is_list of a list or a tuple -/
def sp_is_list (K : PySem.W.Frag) : Sp := fun vs H Q _ => ∃ (a : Addr) (xs : List V), vs = [.ref a] ∧ Sq K H a xs ∧ ∀ H', Same H H' → Q (.bl true) H'
theorem ok_is_list {f : Addr} {fd : FuncData} (F : Fun K "is_list" "is_list" s_is_list f fd) (B : Blt mg) : FnOk P w K mg base CX0 1 f fd ["value"] (sp_is_list K) := by
  refine F.ok sc_is_list (fun vs H Q E h => ?_) (fun cdv A outer s H vs Q E hr h => ?_)
  · obtain ⟨a, xs, rfl, _⟩ := h
    rfl
  · obtain ⟨a, xs, rfl, hs, q⟩ := h
    refine ⟨_, pss_one (ps_ret (pe_callB call_isiT (by rfl) B.isinstance boot_isi (pa_cons (pv 0) (pa_cons (pe_tup (pa_cons (pty B.list boot_tlist) (pa_cons (pty B.tuple boot_ttuple) pa_nil))) pa_nil)))), ?_⟩
    refine ⟨_, rfl, by show 2 ≤ sizeLine; decide, fun p hp => ?_⟩
    have s1 : Same H (upd H p (.tup [.ty "list", .ty "tuple"])) := same_new hp
    have q1 := q _ s1
    rcases hs with hs | hs
    · exact ⟨_, p, _, _, _, true, rfl, upd_same, .cons (.ty "list") (.cons (.ty "tuple") .nil), ty_l (s1.seq hs), kitAny_cons kit_ll (fun z => nomatch z) fun _ => rfl, q1⟩
    · exact ⟨_, p, _, _, _, true, rfl, upd_same, .cons (.ty "list") (.cons (.ty "tuple") .nil), ty_t (same_t s1 hs), kitAny_cons (r := true) kit_tl (fun _ => kitAny_cons kit_tt (fun z => nomatch z) fun _ => rfl) (fun z => nomatch z), q1⟩

/-! is_three of three ints -/
def sp_is_three (K : PySem.W.Frag) : Sp := fun vs H Q _ => ∃ (p : Addr) (a b c : Int), vs = [.ref p] ∧ Sq K H p ([a, b, c].map V.int) ∧ ∀ H', Same H H' → Q (.bl true) H'
theorem sc_is_three : FnScope ["value", "number"] ["value"] (defScope s_is_three) := ⟨rfl, rfl, rfl, by decide +kernel, rfl, by decide +kernel, by decide +kernel⟩
theorem ok_is_three {f f1 f2 : Addr} {fd fd1 fd2 : FuncData} (F : Fun K "is_three" "is_three" s_is_three f fd) (B : Blt mg) (D1 : Df K mg "is_integer" s_is_integer ["value"] f1 fd1) (D2 : Df K mg "is_list" s_is_list ["value"] f2 fd2) :
    FnOk P w K mg base CX0 2 f fd ["value"] (sp_is_three K) := by
  have G1 : FnOk P w K mg base CX0 1 f1 fd1 ["value"] sp_is_integer := ok_is_integer D1.F B
  have G2 : FnOk P w K mg base CX0 1 f2 fd2 ["value"] (sp_is_list K) := ok_is_list D2.F B
  refine F.ok sc_is_three (fun vs H Q E h => ?_) (fun cdv A outer s H vs Q E hr h => ?_)
  · obtain ⟨p, a, b, c, rfl, _⟩ := h
    rfl
  · obtain ⟨p, a, b, c, rfl, hs, q⟩ := h
    have turn : ∀ x, x ∈ [V.int a, V.int b, V.int c] → ∀ H1 : Hp, Turn1 (gName 1) tYes (tCall sp_is_integer [] E0 (tCons (tVar 1) tNil)) [1] [some (.ref p), none] (fun _ => some (.bl true)) x H1 := by
      intro x hx H1 G N h1 h2
      have hi : ∃ n, x = .int n := by
        simp only [List.mem_cons, List.not_mem_nil, or_false] at hx
        rcases hx with rfl | rfl | rfl <;> exact ⟨_, rfl⟩
      obtain ⟨n, rfl⟩ := hi
      refine ⟨rfl, iteT (B := N H1) ?_⟩
      exact ⟨_, rfl, n, rfl, h2 _ rfl _ (Same.refl _)⟩
    rcases hs with hs | hs
    · refine ⟨_, pss_one (ps_ret (pe_and (pdf D2 G2 hr (pa_cons (pv 0) pa_nil)) (pe_and (pe_cmpR op_eq (pe_callB call_len_seq (by rfl) B.len PySem.boot_len (pa_cons (pv 0) pa_nil)) pe_int (nomark _))
        (pe_one (pe_callB (cr_all rfl) (by rfl) B.all boot_all (pa_cons (pe_lc (own := [("number", 1)]) (g := gName 1) (tt := tYes) rfl sc_is_three.nd (pi_list (pv 0)) (blkOk_by (N := ["value", "number"]) (sc := defScope s_is_three) (by decide +kernel)) (fun _ _ _ _ _ => pg_name (i := 1) sc_is_three.nd rfl (Or.inl rfl))
          (fun _ _ _ _ _ => pts_nil) (fun _ _ _ _ _ => pdf D1 G1 hr (pa_cons (pv 1) pa_nil))) pa_nil)))))), ?_⟩
      refine ⟨_, rfl, p, _, rfl, .inl hs, fun H1 s1 => ⟨true, rfl, iteT ?_⟩⟩
      refine ⟨_, rfl, p, _, rfl, .inl (s1.seq hs), rfl, true, rfl, iteT ?_⟩
      refine ⟨_, rfl, p, rfl, ⟨_, s1.seq hs⟩, fun D hD => lcL (fun _ => some (.bl true)) (s1.seq hs) (by show 3 < sizeLine; decide) hD (fun x hx H2 _ => turn x hx H2) fun H2 s2 h2 => ?_⟩
      exact ⟨D, [true, true, true], rfl, SqL.mk h2, q _ (s1.trans s2)⟩
    · refine ⟨_, pss_one (ps_ret (pe_and (pdf D2 G2 hr (pa_cons (pv 0) pa_nil)) (pe_and (pe_cmpR op_eq (pe_callB call_len_seq (by rfl) B.len PySem.boot_len (pa_cons (pv 0) pa_nil)) pe_int (nomark _))
        (pe_one (pe_callB (cr_all rfl) (by rfl) B.all boot_all (pa_cons (pe_lc (own := [("number", 1)]) (g := gName 1) (tt := tYes) rfl sc_is_three.nd (pi_tup (pv 0)) (blkOk_by (N := ["value", "number"]) (sc := defScope s_is_three) (by decide +kernel)) (fun _ _ _ _ _ => pg_name (i := 1) sc_is_three.nd rfl (Or.inl rfl))
          (fun _ _ _ _ _ => pts_nil) (fun _ _ _ _ _ => pdf D1 G1 hr (pa_cons (pv 1) pa_nil))) pa_nil)))))), ?_⟩
      refine ⟨_, rfl, p, _, rfl, .inr hs, fun H1 s1 => ⟨true, rfl, iteT ?_⟩⟩
      refine ⟨_, rfl, p, _, rfl, .inr (same_t s1 hs), rfl, true, rfl, iteT ?_⟩
      refine ⟨_, rfl, p, rfl, ⟨_, same_t s1 hs⟩, fun D hD => lcT (fun _ => some (.bl true)) (same_t s1 hs) (by show 3 < sizeLine; decide) hD (fun x hx H2 _ => turn x hx H2) fun H2 s2 h2 => ?_⟩
      exact ⟨D, [true, true, true], rfl, SqL.mk h2, q _ (s1.trans s2)⟩
end
end G0

namespace G0
open PySem PySem.Spec PyProof.Rows L2
/-! ### the mathematics of told points -/
def gcdL (ns : List Int) : Int := ns.foldl (fun c n => ((Nat.gcd c.natAbs n.natAbs : Nat) : Int)) 0
def firstN (ns : List Int) : Int := (ns.filter fun n => decide (n ≠ 0)).headD 0
def signed (ns : List Int) : Int := if firstN ns < 0 then -gcdL ns else gcdL ns
def plainI (ns : List Int) : List Int := ns.map fun n => n.fdiv (signed ns)
theorem gcd_fold : ∀ (ns : List Int) (c : Int), 0 ≤ c → 0 ≤ ns.foldl (fun c n => ((Nat.gcd c.natAbs n.natAbs : Nat) : Int)) c ∧ (ns.foldl (fun c n => ((Nat.gcd c.natAbs n.natAbs : Nat) : Int)) c ∣ c) ∧ ∀ n ∈ ns, ns.foldl (fun c n => ((Nat.gcd c.natAbs n.natAbs : Nat) : Int)) c ∣ n
  | [], c, h => ⟨h, Int.dvd_refl c, fun _ z => nomatch z⟩
  | m :: ns, c, h => by
    obtain ⟨h1, h2, h3⟩ := gcd_fold ns ((Nat.gcd c.natAbs m.natAbs : Nat) : Int) (Int.natCast_nonneg _)
    have a1 : ((Nat.gcd c.natAbs m.natAbs : Nat) : Int) ∣ c := Int.ofNat_dvd_left.mpr (Nat.gcd_dvd_left _ _)
    have a2 : ((Nat.gcd c.natAbs m.natAbs : Nat) : Int) ∣ m := Int.ofNat_dvd_left.mpr (Nat.gcd_dvd_right _ _)
    refine ⟨h1, Int.dvd_trans h2 a1, fun n hn => ?_⟩
    rcases List.mem_cons.mp hn with rfl | hn
    · exact Int.dvd_trans h2 a2
    · exact h3 n hn
theorem gcdL_nonneg (ns : List Int) : 0 ≤ gcdL ns := (gcd_fold ns 0 (Int.le_refl _)).1
theorem gcdL_dvd {ns : List Int} {n : Int} (h : n ∈ ns) : gcdL ns ∣ n := (gcd_fold ns 0 (Int.le_refl _)).2.2 n h
theorem gcdL_pos {ns : List Int} (h : ∃ n ∈ ns, n ≠ 0) : 0 < gcdL ns := by
  obtain ⟨n, hn, h0⟩ := h
  have d := gcdL_dvd hn
  have p := gcdL_nonneg ns
  have ne : gcdL ns ≠ 0 := fun e => h0 (by rw [e] at d; exact Int.zero_dvd.mp d)
  omega
theorem gcdL_le {ns : List Int} {n : Int} (h : n ∈ ns) (h0 : n ≠ 0) : (gcdL ns).natAbs ≤ n.natAbs := Nat.le_of_dvd (Int.natAbs_pos.mpr h0) (Int.natAbs_dvd_natAbs.mpr (gcdL_dvd h))
theorem gcdL_take {ns : List Int} {i : Nat} {n : Int} (h : ns[i]? = some n) : gcdL (ns.take (i + 1)) = ((Nat.gcd (gcdL (ns.take i)).natAbs n.natAbs : Nat) : Int) := by
  unfold gcdL
  rw [List.take_add_one, h, List.foldl_append]
  rfl

abbrev at_int {ns : List Int} {i : Nat} {x : V} (h : (ns.map V.int)[i]? = some x) : ∃ n, ns[i]? = some n ∧ x = .int n := by
  rw [List.getElem?_map] at h
  cases e : ns[i]? with
  | none =>
    rw [e] at h
    cases h
  | some n =>
    rw [e] at h
    exact ⟨n, rfl, (Option.some.inj h).symm⟩
theorem mem_int {ns : List Int} {x : V} (h : x ∈ ns.map V.int) : ∃ n, n ∈ ns ∧ x = .int n := by
  obtain ⟨n, hn, e⟩ := List.mem_map.mp h
  exact ⟨n, hn, e.symm⟩
theorem fm_ints {F : V → Option V} {f : Int → Option Int} (h : ∀ n : Int, F (.int n) = (f n).map V.int) : ∀ ns : List Int, fm F (ns.map V.int) = (ns.filterMap f).map V.int
  | [] => rfl
  | n :: ns => by
    have ih := fm_ints h ns
    show (V.int n :: ns.map V.int).filterMap F = _
    unfold fm at ih
    rw [List.filterMap_cons, h n, List.filterMap_cons]
    cases f n with
    | none => exact ih
    | some m =>
      show V.int m :: _ = V.int m :: _
      rw [ih]
section
variable {P : Program} {w : World} {K : PySem.W.Frag} {mg : Str → Option Value} {base : Heap}
/-! divisor -/
def sp_divisor (K : PySem.W.Frag) : Sp := fun vs H Q _ => ∃ (p : Addr) (ns : List Int), vs = [.ref p] ∧ Sq K H p (ns.map V.int) ∧ Q (.int (gcdL ns)) H
theorem sc_divisor : FnScope ["numbers", "common", "number"] ["numbers"] (defScope s_divisor) := ⟨rfl, rfl, rfl, by decide +kernel, rfl, by decide +kernel, by decide +kernel⟩
theorem ok_divisor {f : Addr} {fd : FuncData} (F : Fun K "divisor" "divisor" s_divisor f fd) (hG : mg "gcd" = some (.builtin "math.gcd")) : FnOk P w K mg base CX0 1 f fd ["numbers"] (sp_divisor K) := by
  refine F.ok sc_divisor (fun vs H Q E h => ?_) (fun cdv A outer s H vs Q E hr h => ?_)
  · obtain ⟨p, ns, rfl, _⟩ := h
    rfl
  · obtain ⟨p, ns, rfl, hs, q⟩ := h
    have step : ∀ (i : Nat) (x : V) (σ : L2.St) (H1 : Hp) (N : L2.St → Hp → Prop), (ns.map V.int)[i]? = some x → (∃ y, σ = [some (.ref p), some (.int (gcdL (ns.take i))), y] ∧ H1 = H) → (∀ σ2 H2, (∃ y, σ2 = [some (.ref p), some (.int (gcdL (ns.take (i + 1)))), y] ∧ H2 = H) → N σ2 H2) →
        gName 2 x σ H1 fun σ2 H2 => (tCB rGcd (tCons (tVar 1) (tCons (tVar 2) tNil))) σ2 H2 fun v H3 => N (σ2.set 1 (some v)) H3 := by
      rintro i x σ H1 N hx ⟨y, rfl, rfl⟩ k
      obtain ⟨n, hn, rfl⟩ := at_int hx
      refine ⟨_, rfl, _, rfl, _, _, rfl, k _ _ ⟨some (.int n), ?_, rfl⟩⟩
      rw [gcdL_take hn]
      rfl
    rcases hs with hs | hs
    · refine ⟨_, pss_cons (ps_set (i := 1) sc_divisor.nd rfl (Or.inl rfl) pe_int) (pss_cons (ps_for PassesOwn.never rfl (pi_list (pv 0)) (pg_name (i := 2) sc_divisor.nd rfl (Or.inl rfl))
        (pss_one (ps_set (i := 1) sc_divisor.nd rfl (Or.inl rfl) (pe_callBfun cr_gcd (by rfl) hG (pa_cons (pv 1) (pa_cons (pv 2) pa_nil)))))) (pss_one (ps_ret (pv 1)))), ?_⟩
      refine ⟨_, rfl, p, rfl, ⟨_, hs⟩, for_list (K := K) (a := p) (xs := ns.map V.int) (fun i σ H1 => ∃ y, σ = [some (.ref p), some (.int (gcdL (ns.take i))), y] ∧ H1 = H) ⟨none, rfl, rfl⟩ ?_ ?_ ?_⟩
      · rintro i σ H1 _ ⟨y, rfl, rfl⟩
        exact hs
      · intro i x σ H1 hx h
        exact step i x σ H1 _ hx h fun σ2 H2 h2 => h2
      · rintro σ H1 ⟨y, rfl, rfl⟩
        rw [List.length_map, List.take_length]
        exact ⟨_, rfl, q⟩
    · refine ⟨_, pss_cons (ps_set (i := 1) sc_divisor.nd rfl (Or.inl rfl) pe_int) (pss_cons (ps_for PassesOwn.never rfl (pi_tup (pv 0)) (pg_name (i := 2) sc_divisor.nd rfl (Or.inl rfl))
        (pss_one (ps_set (i := 1) sc_divisor.nd rfl (Or.inl rfl) (pe_callBfun cr_gcd (by rfl) hG (pa_cons (pv 1) (pa_cons (pv 2) pa_nil)))))) (pss_one (ps_ret (pv 1)))), ?_⟩
      refine ⟨_, rfl, p, rfl, ⟨_, hs⟩, for_tup (K := K) (a := p) (xs := ns.map V.int) (fun i σ H1 => ∃ y, σ = [some (.ref p), some (.int (gcdL (ns.take i))), y] ∧ H1 = H) ⟨none, rfl, rfl⟩ ?_ ?_ ?_⟩
      · rintro i σ H1 _ ⟨y, rfl, rfl⟩
        exact hs
      · intro i x σ H1 hx h
        exact step i x σ H1 _ hx h fun σ2 H2 h2 => h2
      · rintro σ H1 ⟨y, rfl, rfl⟩
        rw [List.length_map, List.take_length]
        exact ⟨_, rfl, q⟩
end
end G0

namespace G0
open PySem PySem.Spec PyProof.Rows L2
section
variable {P : Program} {w : World} {K : PySem.W.Frag} {mg : Str → Option Value} {base : Heap}
/-! plain -/
def nz (ns : List Int) : List Int := ns.filter fun n => decide (n ≠ 0)
theorem nz_fm (ns : List Int) : (ns.filterMap fun n => if n ≠ 0 then some n else none) = nz ns := by
  unfold nz
  induction ns with
  | nil => rfl
  | cons n ns ih =>
    by_cases h : n = 0
    · subst h
      rw [List.filterMap_cons, if_neg (by simp), List.filter_cons_of_neg (by simp)]
      exact ih
    · rw [List.filterMap_cons, if_pos h, List.filter_cons_of_pos (by simpa using h)]
      show n :: _ = n :: _
      rw [ih]
theorem nz_head {ns : List Int} (h : ∃ n ∈ ns, n ≠ 0) : (nz ns)[0]? = some (firstN ns) ∧ firstN ns ∈ ns ∧ firstN ns ≠ 0 := by
  obtain ⟨n, hn, h0⟩ := h
  have hm : n ∈ nz ns := List.mem_filter.mpr ⟨hn, by simpa using h0⟩
  unfold firstN
  show (nz ns)[0]? = some ((nz ns).headD 0) ∧ (nz ns).headD 0 ∈ ns ∧ (nz ns).headD 0 ≠ 0
  cases e : nz ns with
  | nil =>
    rw [e] at hm
    cases hm
  | cons m r =>
    have hm2 : m ∈ nz ns := by
      rw [e]
      exact List.mem_cons_self
    obtain ⟨a1, a2⟩ := List.mem_filter.mp hm2
    exact ⟨rfl, a1, by simpa using a2⟩
theorem fmap_some {α β : Type} (f : α → β) : ∀ xs : List α, (xs.filterMap fun x => some (f x)) = xs.map f
  | [] => rfl
  | x :: xs => by
    rw [List.filterMap_cons]
    show f x :: _ = f x :: _
    rw [fmap_some f xs]
theorem signed_le {ns : List Int} (h : ∃ n ∈ ns, n ≠ 0) (hb : ∀ n ∈ ns, n.natAbs < 2 ^ 30) : signed ns ≠ 0 ∧ (signed ns).natAbs < 1073741824 := by
  have p := gcdL_pos h
  obtain ⟨n, hn, h0⟩ := h
  have l := gcdL_le hn h0
  have b := hb n hn
  have e30 : (2 : Nat) ^ 30 = 1073741824 := rfl
  unfold signed
  split <;> omega
def sp_plain (K : PySem.W.Frag) : Sp := fun vs H Q _ => ∃ (p : Addr) (ns : List Int), vs = [.ref p] ∧ Sq K H p (ns.map V.int) ∧ (∃ n ∈ ns, n ≠ 0) ∧ (∀ n ∈ ns, n.natAbs < 2 ^ 30) ∧ ns.length ≤ 1000 ∧
  ∀ H' q, Same H H' → H q = none → H' q = some (.lst ((plainI ns).map V.int)) → Q (.ref q) H'
theorem sc_plain : FnScope ["numbers", "common", "first", "number"] ["numbers"] (defScope s_plain) := ⟨rfl, rfl, rfl, by decide +kernel, rfl, by decide +kernel, by decide +kernel⟩
theorem ok_plain {f f1 : Addr} {fd fd1 : FuncData} (F : Fun K "plain" "plain" s_plain f fd) (hG : mg "gcd" = some (.builtin "math.gcd")) (D1 : Df K mg "divisor" s_divisor ["numbers"] f1 fd1) : FnOk P w K mg base CX0 2 f fd ["numbers"] (sp_plain K) := by
  have G1 : FnOk P w K mg base CX0 1 f1 fd1 ["numbers"] (sp_divisor K) := ok_divisor D1.F hG
  refine F.ok sc_plain (fun vs H Q E h => ?_) (fun cdv A outer s H vs Q E hr h => ?_)
  · obtain ⟨p, ns, rfl, _⟩ := h
    rfl
  · obtain ⟨p, ns, rfl, hs, hz, hb, hl, q⟩ := h
    have hlen : (ns.map V.int).length < sizeLine := by
      rw [List.length_map]
      exact Nat.lt_of_le_of_lt hl (by decide)
    obtain ⟨hh, hmem, hne⟩ := nz_head hz
    obtain ⟨c0, cb⟩ := signed_le hz hb
    let FN : V → Option V := fun x => match x with | .int n => if n ≠ 0 then some (.int n) else none | _ => none
    let FD : V → Option V := fun x => match x with | .int n => some (.int (n.fdiv (signed ns))) | _ => none
    have fd : fm FD (ns.map V.int) = (plainI ns).map V.int := by
      rw [fm_ints (f := fun n => some (n.fdiv (signed ns))) (fun _ => rfl), fmap_some]
      rfl
    have at0 : atI (fm FN (ns.map V.int)) 0 = some (.int (firstN ns)) := by
      rw [fm_ints (f := fun n => if n ≠ 0 then some n else none) (fun n => by by_cases h0 : n = 0 <;> simp [FN, h0]), nz_fm]
      refine atI_nat (j := 0) ?_
      rw [List.getElem?_map, hh]
      rfl
    have t1 : ∀ x, x ∈ ns.map V.int → ∀ H1 : Hp, Turn1 (gName 3) (tTest (tOp rNe (tVar 3) (tC (.int 0)))) (tVar 3) [3] [some (.ref p), some (.int (gcdL ns)), none, none] FN x H1 := by
      intro x hx H1 G N g1 g2
      obtain ⟨n, hn, rfl⟩ := mem_int hx
      refine ⟨rfl, ?_⟩
      refine ⟨_, rfl, rfl, _, rfl, ?_⟩
      by_cases h0 : n = 0
      · subst h0
        exact g1 (by simp [FN]) _ (Same.refl _)
      · have hd : (!decide (V.int n = V.int 0)) = true := by simp [h0]
        rw [hd]
        exact iteT ⟨_, rfl, g2 _ (by simp [FN, h0]) _ (Same.refl _)⟩
    have t2 : ∀ c : Int, signed ns = c → ∀ x, x ∈ ns.map V.int → ∀ H1 : Hp, Turn1 (gName 3) tYes (tOp (rI CDivN fun i j => .int (i.fdiv j)) (tVar 3) (tVar 1)) [3] [some (.ref p), some (.int c), some (.int (firstN ns)), none] FD x H1 := by
      intro c hc x hx H1 G N g1 g2
      obtain ⟨n, hn, rfl⟩ := mem_int hx
      refine ⟨rfl, iteT (B := N H1) ?_⟩
      exact ⟨_, rfl, _, rfl, _, _, rfl, rfl, by rw [← hc]; exact ⟨c0, cb⟩, g2 _ (by simp [FD, hc]) _ (Same.refl _)⟩
    rcases hs with hs | hs
    · refine ⟨_, pss_cons (ps_set (i := 1) sc_plain.nd rfl (Or.inr rfl) (pdf D1 G1 hr (pa_cons (pv 0) pa_nil)))
        (pss_cons (ps_set (i := 2) sc_plain.nd rfl (Or.inl rfl) (pe_ix ix_list (pe_lc (own := [("number", 3)]) (g := gName 3) rfl sc_plain.nd (pi_list (pv 0)) (blkOk_by (N := ["numbers", "common", "first", "number"]) (sc := defScope s_plain) (by decide +kernel)) (fun _ _ _ _ _ => pg_name (i := 3) sc_plain.nd rfl (Or.inl rfl))
          (fun _ _ _ _ _ => pts_one (pt_cmpR op_ne (pv 3) pe_int (nomark _))) (fun _ _ _ _ _ => pv 3)) pe_int (fun _ _ => rfl)))
        (pss_cons (ps_if (pt_cmpR op_lt (pv 2) pe_int (nomark _)) (pss_one (ps_set (i := 1) sc_plain.nd rfl (Or.inr rfl) (pe_un un_neg (pv 1)))) pss_nil)
        (pss_one (ps_ret (pe_lc (own := [("number", 3)]) (g := gName 3) (tt := tYes) rfl sc_plain.nd (pi_list (pv 0)) (blkOk_by (N := ["numbers", "common", "first", "number"]) (sc := defScope s_plain) (by decide +kernel)) (fun _ _ _ _ _ => pg_name (i := 3) sc_plain.nd rfl (Or.inl rfl))
          (fun _ _ _ _ _ => pts_nil) (fun _ _ _ _ _ => pe_op op_fdivN (pv 3) (pv 1))))))), ?_⟩
      refine ⟨_, rfl, p, ns, rfl, .inl hs, ?_⟩
      refine ⟨_, rfl, p, rfl, ⟨_, hs⟩, fun D hD => lcL FN hs hlen hD (fun x hx H1 _ => t1 x hx H1) fun H1 s1 h1 => ?_⟩
      refine ⟨D, _, 0, _, rfl, rfl, SqL.mk h1, at0, ?_⟩
      refine ⟨_, rfl, _, _, rfl, rfl, _, rfl, ?_⟩
      have hs1 := s1.seq hs
      refine ite2 (fun e => ?_) (fun e => ?_)
      · have e2 : firstN ns < 0 := of_decide_eq_true e
        refine ⟨_, rfl, _, rfl, ?_⟩
        refine ⟨_, rfl, p, rfl, ⟨_, hs1⟩, fun D2 hD2 => lcL FD hs1 hlen hD2 (fun x hx H2 _ => t2 (-gcdL ns) (by unfold signed; rw [if_pos e2]) x hx H2) fun H2 s2 h2 => q H2 D2 (s1.trans s2) (s1.free hD2) (by rw [h2, fd])⟩
      · have e2 : ¬ firstN ns < 0 := fun z => e (decide_eq_true z)
        refine ⟨_, rfl, p, rfl, ⟨_, hs1⟩, fun D2 hD2 => lcL FD hs1 hlen hD2 (fun x hx H2 _ => t2 (gcdL ns) (by unfold signed; rw [if_neg e2]) x hx H2) fun H2 s2 h2 => q H2 D2 (s1.trans s2) (s1.free hD2) (by rw [h2, fd])⟩
    · refine ⟨_, pss_cons (ps_set (i := 1) sc_plain.nd rfl (Or.inr rfl) (pdf D1 G1 hr (pa_cons (pv 0) pa_nil)))
        (pss_cons (ps_set (i := 2) sc_plain.nd rfl (Or.inl rfl) (pe_ix ix_list (pe_lc (own := [("number", 3)]) (g := gName 3) rfl sc_plain.nd (pi_tup (pv 0)) (blkOk_by (N := ["numbers", "common", "first", "number"]) (sc := defScope s_plain) (by decide +kernel)) (fun _ _ _ _ _ => pg_name (i := 3) sc_plain.nd rfl (Or.inl rfl))
          (fun _ _ _ _ _ => pts_one (pt_cmpR op_ne (pv 3) pe_int (nomark _))) (fun _ _ _ _ _ => pv 3)) pe_int (fun _ _ => rfl)))
        (pss_cons (ps_if (pt_cmpR op_lt (pv 2) pe_int (nomark _)) (pss_one (ps_set (i := 1) sc_plain.nd rfl (Or.inr rfl) (pe_un un_neg (pv 1)))) pss_nil)
        (pss_one (ps_ret (pe_lc (own := [("number", 3)]) (g := gName 3) (tt := tYes) rfl sc_plain.nd (pi_tup (pv 0)) (blkOk_by (N := ["numbers", "common", "first", "number"]) (sc := defScope s_plain) (by decide +kernel)) (fun _ _ _ _ _ => pg_name (i := 3) sc_plain.nd rfl (Or.inl rfl))
          (fun _ _ _ _ _ => pts_nil) (fun _ _ _ _ _ => pe_op op_fdivN (pv 3) (pv 1))))))), ?_⟩
      refine ⟨_, rfl, p, ns, rfl, .inr hs, ?_⟩
      refine ⟨_, rfl, p, rfl, ⟨_, hs⟩, fun D hD => lcT FN hs hlen hD (fun x hx H1 _ => t1 x hx H1) fun H1 s1 h1 => ?_⟩
      refine ⟨D, _, 0, _, rfl, rfl, SqL.mk h1, at0, ?_⟩
      refine ⟨_, rfl, _, _, rfl, rfl, _, rfl, ?_⟩
      have hs1 := same_t s1 hs
      refine ite2 (fun e => ?_) (fun e => ?_)
      · have e2 : firstN ns < 0 := of_decide_eq_true e
        refine ⟨_, rfl, _, rfl, ?_⟩
        refine ⟨_, rfl, p, rfl, ⟨_, hs1⟩, fun D2 hD2 => lcT FD hs1 hlen hD2 (fun x hx H2 _ => t2 (-gcdL ns) (by unfold signed; rw [if_pos e2]) x hx H2) fun H2 s2 h2 => q H2 D2 (s1.trans s2) (s1.free hD2) (by rw [h2, fd])⟩
      · have e2 : ¬ firstN ns < 0 := fun z => e (decide_eq_true z)
        refine ⟨_, rfl, p, rfl, ⟨_, hs1⟩, fun D2 hD2 => lcT FD hs1 hlen hD2 (fun x hx H2 _ => t2 (gcdL ns) (by unfold signed; rw [if_neg e2]) x hx H2) fun H2 s2 h2 => q H2 D2 (s1.trans s2) (s1.free hD2) (by rw [h2, fd])⟩
end
end G0

namespace G0
open PySem PySem.Spec PyProof.Rows L2
section
variable {P : Program} {w : World} {K : PySem.W.Frag} {mg : Str → Option Value} {base : Heap}
/-! is_point of three ints -/
def sp_is_point (K : PySem.W.Frag) : Sp := fun vs H Q _ => ∃ (p : Addr) (a b c : Int), vs = [.ref p] ∧ Sq K H p ([a, b, c].map V.int) ∧ ∀ H', Same H H' → Q (.bl (decide (a ≠ 0) || (decide (b ≠ 0) || (decide (c ≠ 0) || false)))) H'
theorem sc_is_point : FnScope ["value", "number"] ["value"] (defScope s_is_point) := ⟨rfl, rfl, rfl, by decide +kernel, rfl, by decide +kernel, by decide +kernel⟩
theorem ok_is_point {f f1 f2 f3 : Addr} {fd fd1 fd2 fd3 : FuncData} (F : Fun K "is_point" "is_point" s_is_point f fd) (B : Blt mg) (D1 : Df K mg "is_three" s_is_three ["value"] f1 fd1)
    (D2 : Df K mg "is_integer" s_is_integer ["value"] f2 fd2) (D3 : Df K mg "is_list" s_is_list ["value"] f3 fd3) : FnOk P w K mg base CX0 3 f fd ["value"] (sp_is_point K) := by
  have G1 : FnOk P w K mg base CX0 2 f1 fd1 ["value"] (sp_is_three K) := ok_is_three D1.F B D2 D3
  refine F.ok sc_is_point (fun vs H Q E h => ?_) (fun cdv A outer s H vs Q E hr h => ?_)
  · obtain ⟨p, a, b, c, rfl, _⟩ := h
    rfl
  · obtain ⟨p, a, b, c, rfl, hs, q⟩ := h
    let FN : V → Option V := fun x => match x with | .int n => some (.bl (decide (n ≠ 0))) | _ => none
    have t1 : ∀ x, x ∈ [a, b, c].map V.int → ∀ H1 : Hp, Turn1 (gName 1) tYes (tOp rNe (tVar 1) (tC (.int 0))) [1] [some (.ref p), none] FN x H1 := by
      intro x hx H1 G N g1 g2
      obtain ⟨n, hn, rfl⟩ := mem_int hx
      refine ⟨rfl, iteT (B := N H1) ?_⟩
      refine ⟨_, rfl, rfl, g2 _ ?_ _ (Same.refl _)⟩
      show some (V.bl (decide (n ≠ 0))) = some (V.bl (!decide (V.int n = V.int 0)))
      by_cases h0 : n = 0 <;> simp [h0]
    rcases hs with hs | hs
    · refine ⟨_, pss_one (ps_ret (pe_and (pdf D1 G1 hr (pa_cons (pv 0) pa_nil)) (pe_one (pe_callB (cr_any rfl) (by rfl) B.any boot_any (pa_cons (pe_lc (own := [("number", 1)]) (g := gName 1) (tt := tYes) rfl sc_is_point.nd (pi_list (pv 0)) (blkOk_by (N := ["value", "number"]) (sc := defScope s_is_point) (by decide +kernel)) (fun _ _ _ _ _ => pg_name (i := 1) sc_is_point.nd rfl (Or.inl rfl))
        (fun _ _ _ _ _ => pts_nil) (fun _ _ _ _ _ => pe_cmpR op_ne (pv 1) pe_int (nomark _))) pa_nil))))), ?_⟩
      refine ⟨_, rfl, p, a, b, c, rfl, .inl hs, fun H1 s1 => ⟨true, rfl, iteT ?_⟩⟩
      have hs1 := s1.seq hs
      refine ⟨_, rfl, p, rfl, ⟨_, hs1⟩, fun D hD => lcL FN hs1 (by show 3 < sizeLine; decide) hD (fun x hx H2 _ => t1 x hx H2) fun H2 s2 h2 => ?_⟩
      exact ⟨D, [decide (a ≠ 0), decide (b ≠ 0), decide (c ≠ 0)], rfl, SqL.mk h2, q _ (s1.trans s2)⟩
    · refine ⟨_, pss_one (ps_ret (pe_and (pdf D1 G1 hr (pa_cons (pv 0) pa_nil)) (pe_one (pe_callB (cr_any rfl) (by rfl) B.any boot_any (pa_cons (pe_lc (own := [("number", 1)]) (g := gName 1) (tt := tYes) rfl sc_is_point.nd (pi_tup (pv 0)) (blkOk_by (N := ["value", "number"]) (sc := defScope s_is_point) (by decide +kernel)) (fun _ _ _ _ _ => pg_name (i := 1) sc_is_point.nd rfl (Or.inl rfl))
        (fun _ _ _ _ _ => pts_nil) (fun _ _ _ _ _ => pe_cmpR op_ne (pv 1) pe_int (nomark _))) pa_nil))))), ?_⟩
      refine ⟨_, rfl, p, a, b, c, rfl, .inr hs, fun H1 s1 => ⟨true, rfl, iteT ?_⟩⟩
      have hs1 := same_t s1 hs
      refine ⟨_, rfl, p, rfl, ⟨_, hs1⟩, fun D hD => lcT FN hs1 (by show 3 < sizeLine; decide) hD (fun x hx H2 _ => t1 x hx H2) fun H2 s2 h2 => ?_⟩
      exact ⟨D, [decide (a ≠ 0), decide (b ≠ 0), decide (c ≠ 0)], rfl, SqL.mk h2, q _ (s1.trans s2)⟩

/-! told_point of three ints, not all 0 -/
def sp_told_point (K : PySem.W.Frag) : Sp := fun vs H Q _ => ∃ (p : Addr) (a b c : Int), vs = [.ref p] ∧ Sq K H p ([a, b, c].map V.int) ∧ (∃ n ∈ [a, b, c], n ≠ 0) ∧ (∀ n ∈ [a, b, c], n.natAbs < 2 ^ 30) ∧
  ∀ H' q, Same H H' → H q = none → H' q = some (.tup ((plainI [a, b, c]).map V.int)) → Q (.ref q) H'
theorem any_of {a b c : Int} (h : ∃ n ∈ [a, b, c], n ≠ 0) : (decide (a ≠ 0) || (decide (b ≠ 0) || (decide (c ≠ 0) || false))) = true := by
  obtain ⟨n, hn, h0⟩ := h
  simp only [List.mem_cons, List.not_mem_nil, or_false] at hn
  rcases hn with rfl | rfl | rfl <;> simp [h0]
theorem sc_told_point : FnScope ["point"] ["point"] (defScope s_told_point) := ⟨rfl, rfl, rfl, by decide +kernel, rfl, by decide +kernel, by decide +kernel⟩
theorem ok_told_point {f f1 f2 : Addr} {fd fd1 fd2 : FuncData} (F : Fun K "told_point" "told_point" s_told_point f fd) (B : Blt mg) (D1 : Df K mg "is_point" s_is_point ["value"] f1 fd1) (D2 : Df K mg "plain" s_plain ["numbers"] f2 fd2)
    (G1 : FnOk P w K mg base CX0 3 f1 fd1 ["value"] (sp_is_point K)) (G2 : FnOk P w K mg base CX0 2 f2 fd2 ["numbers"] (sp_plain K)) : FnOk P w K mg base CX0 4 f fd ["point"] (sp_told_point K) := by
  refine F.ok sc_told_point (fun vs H Q E h => ?_) (fun cdv A outer s H vs Q E hr h => ?_)
  · obtain ⟨p, a, b, c, rfl, _⟩ := h
    rfl
  · obtain ⟨p, a, b, c, rfl, hs, hz, hb, q⟩ := h
    refine ⟨_, pss_cons (ps_if (pt_not (pt_val (pdf D1 G1 hr (pa_cons (pv 0) pa_nil)))) (pss_one ps_never) pss_nil)
      (pss_one (ps_ret (pe_callTy call_tuple_of (by rfl) B.tuple boot_ttuple (pa_cons (pdf D2 G2 (hr.mono (by decide)) (pa_cons (pv 0) pa_nil)) pa_nil)))), ?_⟩
    refine ⟨_, rfl, p, a, b, c, rfl, hs, fun H1 s1 => ?_⟩
    rw [any_of hz]
    refine ⟨true, rfl, iteF ?_⟩
    refine ⟨_, rfl, p, [a, b, c], rfl, hs.same s1, hz, hb, by show 3 ≤ 1000; decide, fun H2 l s2 nl hl => ?_⟩
    refine ⟨l, _, rfl, .inl ⟨SqL.mk hl, fun t ht => ?_⟩⟩
    exact q _ t ((s1.trans s2).trans (same_new ht)) ((s1.trans s2).free ht) upd_same
end
end G0

namespace G0
open PySem PySem.Spec PyProof.Rows L2
abbrev s_Spots : Stmt := top 35
abbrev s_Spots_init : Stmt := inClass s_Spots 0
abbrev s_Spots_points : Stmt := inClass s_Spots 4
abbrev s_Spots_place : Stmt := inClass s_Spots 5
/-! ### what is compared -/
theorem lay_ints : ∀ ns : List Int, PyData.canLayAll0 (ns.map PyData.int) = true
  | [] => by simp [PyData.canLayAll0]
  | n :: ns => by simp [PyData.canLayAll0, PyData.canLay0, lay_ints ns]
theorem dep_ints : ∀ ns : List Int, PyData.depthAll (ns.map PyData.int) = 0
  | [] => by simp [PyData.depthAll]
  | n :: ns => by simp [PyData.depthAll, PyData.depth, dep_ints ns]
theorem lay_tups : ∀ ts : List (List Int), PyData.canLayAll0 (ts.map dTup) = true
  | [] => by simp [PyData.canLayAll0]
  | t :: ts => by simp [PyData.canLayAll0, PyData.canLay0, lay_tups ts, lay_ints]
theorem dep_tups : ∀ ts : List (List Int), PyData.depthAll (ts.map dTup) ≤ 1
  | [] => by simp [PyData.depthAll]
  | t :: ts => by
    have := dep_tups ts
    simp only [List.map_cons, PyData.depthAll, PyData.depth, dep_ints]
    omega
theorem shaped_tup (ns : List Int) : SeqAt.shaped (dTup ns) = true := by
  show (PyData.canLay0 (dTup ns) && decide (PyData.depth (dTup ns) ≤ 64)) = true
  simp only [PyData.canLay0, lay_ints, PyData.depth, dep_ints]
  decide
theorem shaped_tups (ts : List (List Int)) : SeqAt.shaped (.list (ts.map dTup)) = true := by
  show (PyData.canLay0 (.list (ts.map dTup)) && decide (PyData.depth (.list (ts.map dTup)) ≤ 64)) = true
  have h : PyData.depth (.list (ts.map dTup)) ≤ 64 := by
    have := dep_tups ts
    simp only [PyData.depth]
    omega
  simp only [PyData.canLay0, lay_tups, decide_eq_true h, Bool.and_self]
theorem any_eqv (ts : List (List Int)) (t : List Int) : ((ts.map dTup).any fun z => PyData.eqv z (dTup t)) = decide (t ∈ ts) := by
  induction ts with
  | nil => simp
  | cons u us ih =>
    rw [List.map_cons, List.any_cons, ih, eqv_tup, Bool.eq_iff_iff]
    simp only [Bool.or_eq_true, decide_eq_true_eq, List.mem_cons]
    exact ⟨fun h => h.imp (fun e => e.symm) id, fun h => h.imp (fun e => e.symm) id⟩
theorem not_mem_take {α : Type} {xs : List α} {i : Nat} {x : α} (nd : xs.Nodup) (h : xs[i]? = some x) : x ∉ xs.take i := by
  intro m
  obtain ⟨hi, e⟩ := List.getElem?_eq_some_iff.mp h
  obtain ⟨j, hj, ej⟩ := List.getElem_of_mem m
  rw [List.length_take] at hj
  rw [List.getElem_take] at ej
  have := (List.getElem_inj (h₀ := by omega) (h₁ := hi) nd).mp (ej.trans e.symm)
  omega
theorem DpAll.snoc {K : PySem.W.Frag} {H : Hp} : ∀ {vs : List V} {ds : List PyData} {v : V} {d : PyData}, DpAll K H vs ds → Dp K H v d → DpAll K H (vs ++ [v]) (ds ++ [d])
  | _, _, _, _, .nil, h => .cons h .nil
  | _, _, _, _, .cons h1 h2, h => .cons h1 (DpAll.snoc h2 h)
theorem DpAll.len {K : PySem.W.Frag} {H : Hp} : ∀ {vs : List V} {ds : List PyData}, DpAll K H vs ds → vs.length = ds.length
  | _, _, .nil => rfl
  | _, _, .cons _ h => by rw [List.length_cons, List.length_cons, DpAll.len h]

/-! ### Spots -/
/-- one point as it may be passed -/
structure Pt (K : PySem.W.Frag) (H : Hp) (v : V) (t : List Int) : Prop where
  at_ : ∃ p a b c, v = .ref p ∧ t = [a, b, c] ∧ Sq K H p ([a, b, c].map V.int)
  nz : ∃ n ∈ t, n ≠ 0
  sm : ∀ n ∈ t, n.natAbs < 2 ^ 30
theorem Pt.same {K : PySem.W.Frag} {H H' : Hp} {v : V} {t : List Int} (e : Same H H') (h : Pt K H v t) : Pt K H' v t := by
  obtain ⟨⟨p, a, b, c, h1, h2, h3⟩, h4, h5⟩ := h
  exact ⟨⟨p, a, b, c, h1, h2, h3.same e⟩, h4, h5⟩
/-- Spots that keep these told points -/
def SpotsAt (K : PySem.W.Frag) (C : Addr) (H : Hp) (x : Addr) (ts : List (List Int)) : Prop :=
  ∃ dx l vs, H x = some (.ins C dx [("_points", .ref l)]) ∧ H l = some (.lst vs) ∧ DpAll K H vs (ts.map dTup)
theorem SpotsAt.same {K : PySem.W.Frag} {C x : Addr} {H H' : Hp} {ts : List (List Int)} (e : Same H H') (h : SpotsAt K C H x ts) : SpotsAt K C H' x ts := by
  obtain ⟨dx, l, vs, h1, h2, h3⟩ := h
  exact ⟨dx, l, vs, e _ _ h1, e _ _ h2, DpAll.same e h3⟩
def sp_init (K : PySem.W.Frag) (C : Addr) : Sp := fun vs H Q _ => ∃ (H0 : Hp) (x dx p : Addr) (us : List V) (ts : List (List Int)), vs = [.ref x, .ref p] ∧ Same H0 H ∧ H0 x = none ∧ H x = some (.ins C dx []) ∧ Sq K H0 p us ∧ us.length = ts.length ∧
  (∀ (i : Nat) (v : V) (t : List Int), us[i]? = some v → ts[i]? = some t → Pt K H0 v t) ∧ 1 ≤ ts.length ∧ ts.length ≤ 24 ∧ (ts.map plainI).Nodup ∧ ∀ H', Same H0 H' → SpotsAt K C H' x (ts.map plainI) → Q .non H'
structure SpTxt (K : PySem.W.Frag) (mg : Str → Option Value) (C : Addr) : Prop where
  cl : Cls K C
  nP : NoAttr K C "_points"
  mgC : mg "Spots" = some (.ref C)
  most : ∃ t, mg "MOST_POINTS" = some (.int 24 t)
section
variable {P : Program} {w : World} {K : PySem.W.Frag} {mg : Str → Option Value} {base : Heap}
theorem sc_init : FnScope ["self", "points", "told", "position", "point"] ["self", "points"] (defScope s_Spots_init) := ⟨rfl, rfl, rfl, by decide +kernel, rfl, by decide +kernel, by decide +kernel⟩
theorem ok_init {f C f1 f2 f3 : Addr} {fd fd1 fd2 fd3 : FuncData} (F : Fun K "__init__" "Spots.__init__" s_Spots_init f fd) (T : SpTxt K mg C) (B : Blt mg) (D1 : Df K mg "is_list" s_is_list ["value"] f1 fd1) (D2 : Df K mg "is_point" s_is_point ["value"] f2 fd2) (D3 : Df K mg "told_point" s_told_point ["point"] f3 fd3)
    (G1 : FnOk P w K mg base CX0 1 f1 fd1 ["value"] (sp_is_list K)) (G2 : FnOk P w K mg base CX0 3 f2 fd2 ["value"] (sp_is_point K)) (G3 : FnOk P w K mg base CX0 4 f3 fd3 ["point"] (sp_told_point K)) : FnOk P w K mg base CX0 5 f fd ["self", "points"] (sp_init K C) := by
  refine F.ok sc_init (fun vs H Q E h => ?_) (fun cdv A outer s H vs Q E hr h => ?_)
  · obtain ⟨H0, x, dx, p, us, ts, rfl, _⟩ := h
    rfl
  · obtain ⟨H0, x, dx, p, us, ts, rfl, s0, hx0, hx, hp, hlu, hpt, h1, h24, hnd, q⟩ := h
    obtain ⟨t24, m24⟩ := T.most
    obtain ⟨kind, hp⟩ := hp.kind
    have hu65 : (A.deeper (envOfC "Spots.__init__" (defScope s_Spots_init) s.heap.objs.size f cdv)).units + 65 < cLine := by
      have := hr.un
      omega
    refine ⟨_, pss_cons (ps_if (PW.pt (pw_or (pt_not (pt_val (pdf D1 G1 (hr.mono (by decide)) (pa_cons (pv 1) pa_nil)))) (pw_or1 (pt_not (pt_chain op_le op_le pe_int (pe_callB call_len_seq (by rfl) B.len PySem.boot_len (pa_cons (pv 1) pa_nil)) (pe_glob (v := V.int 24) rfl m24 ⟨_, rfl⟩)))))) (pss_one ps_never) pss_nil)
      (pss_cons (ps_set (i := 2) sc_init.nd rfl (Or.inl rfl) (pe_lst pa_nil))
      (pss_cons (ps_for PassesOwn.never rfl (pi_E kind (by rfl) B.enumerate (pa_cons (pv 1) pa_nil)) (pg_tup rfl (pgs_cons (pg_name (i := 3) sc_init.nd rfl (.inl rfl)) (pgs_cons (pg_name (i := 4) sc_init.nd rfl (.inl rfl)) pgs_nil)))
        (pss_cons (ps_if (PW.pt (pw_or (pt_not (pt_val (pdf D2 G2 (hr.mono (by decide)) (pa_cons (pv 4) pa_nil)))) (pw_or1 (pt_cmpR (op_inD hu65) (pdf D3 G3 hr (pa_cons (pv 4) pa_nil)) (pv 2) (by rfl))))) (pss_one ps_never) pss_nil)
        (pss_one (ps_expr (pe_bm PySem.F.plainAttrs_list PySem.F.slot_list_append PySem.F.type_list_append mt_append (pv 2) (pa_cons (pdf D3 G3 hr (pa_cons (pv 4) pa_nil)) pa_nil))))))
      (pss_one (ps_fld (pv 0) (pv 2) rfl)))), ?_⟩
    -- not is_list(points) or not 1 <= len(points) <= MOST_POINTS
    refine ⟨_, rfl, p, us, rfl, (hp.same s0).sq, fun H1 s1 => ⟨true, rfl, ?_⟩⟩
    have s01 := s0.trans s1
    refine iteF ?_
    refine ⟨_, rfl, p, us, rfl, (hp.same s01).sq, ?_⟩
    have e1 : decide ((1 : Int) ≤ ((us.length : Nat) : Int)) = true := decide_eq_true (by omega)
    have e24 : decide (((us.length : Nat) : Int) ≤ 24) = true := decide_eq_true (by omega)
    refine ⟨1, _, rfl, rfl, _, rfl, ?_⟩
    rw [e1]
    refine iteT ⟨_, 24, rfl, rfl, _, rfl, ?_⟩
    rw [e24]
    refine iteF ?_
    -- told = []
    refine ⟨Nat.zero_le _, fun l hl => ?_⟩
    -- for position, point in enumerate(points)
    have hx1 : H1 x = some (.ins C dx []) := s1 _ _ hx
    have nxl : x ≠ l := ne_of_none hx1 hl
    have l0 : H0 l = none := s01.free hl
    refine ⟨_, rfl, p, us, rfl, hp.same (s01.trans (same_new hl)), for_it (walk_E (b := kind) (xs := us)) (fun i σ H2 => ∃ (D0 : Hp) (vs : List V) (y3 y4 : Option V), σ = [some (.ref x), some (.ref p), some (.ref l), y3, y4] ∧ Same H0 D0 ∧ D0 x = none ∧ D0 l = none ∧ Same D0 H2 ∧
      H2 x = some (.ins C dx []) ∧ H2 l = some (.lst vs) ∧ DpAll K D0 vs (((ts.map plainI).take i).map dTup)) ⟨H0, [], none, none, rfl, Same.refl _, hx0, l0, s01.trans (same_new hl), ?_, upd_same, .nil⟩ ?_ ?_ ?_⟩
    · rw [upd_ne nxl]
      exact hx1
    · rintro i σ H2 _ ⟨D0, vs, y3, y4, rfl, a1, a2, a3, a4, _⟩
      exact hp.same (a1.trans a4)
    · rintro i y σ H2 H3 hi ⟨D0, vs, y3, y4, rfl, a1, a2, a3, a4, a5, a6, a7⟩ ⟨Tp, z1, z2, rfl, nT, rfl, ez1, ez2⟩
      cases ez1
      obtain ⟨t, et⟩ : ∃ t, ts[i]? = some t := ⟨ts[i]'(by omega), List.getElem?_eq_getElem _⟩
      have pt0 := hpt i z2 t ez2 et
      obtain ⟨⟨pp, a, b, c, rfl, rfl, sq⟩, nz, sm⟩ := pt0
      have sT : Same H2 (upd H2 Tp (.tup [.int (i : Nat), .ref pp])) := same_new nT
      refine ⟨Tp, _, rfl, SqT.mk upd_same, rfl, _, _, rfl, _, _, rfl, rfl, ?_⟩
      have s3 : Same H0 (upd H2 Tp (.tup [.int (i : Nat), .ref pp])) := (a1.trans a4).trans sT
      -- not is_point(point) or told_point(point) in told
      refine ⟨_, rfl, pp, a, b, c, rfl, sq.same s3, fun H4 s4 => ?_⟩
      rw [any_of nz]
      refine ⟨true, rfl, iteF ?_⟩
      refine ⟨_, rfl, pp, a, b, c, rfl, sq.same (s3.trans s4), nz, sm, fun H5 q1 s5 n5 h5 => ?_⟩
      have sD5 : Same D0 H5 := (a4.trans sT).trans (s4.trans s5)
      have hl5 : H5 l = some (.lst vs) := s5 _ _ (s4 _ _ (sT _ _ a6))
      refine ⟨_, rfl, dTup (plainI [a, b, c]), ((ts.map plainI).take i).map dTup, dp_tup (SqT.mk h5), .lst (SqL.mk hl5) (DpAll.same sD5 a7), shaped_tup _, shaped_tups _, ?_⟩
      have em : (ts.map plainI)[i]? = some (plainI [a, b, c]) := by
        rw [List.getElem?_map, et]
        rfl
      have no : ((((ts.map plainI).take i).map dTup).any fun z => PyData.eqv z (dTup (plainI [a, b, c]))) = false := by
        rw [any_eqv]
        exact decide_eq_false (not_mem_take hnd em)
      rw [no]
      refine ⟨_, rfl, iteF ?_⟩
      -- told.append(told_point(point))
      refine ⟨_, rfl, .inl ⟨rfl, _, SqL.mk hl5⟩, _, rfl, pp, a, b, c, rfl, sq.same (a1.trans sD5), nz, sm, fun H6 q2 s6 n6 h6 => ?_⟩
      have sD6 : Same D0 H6 := sD5.trans s6
      have hl6 : H6 l = some (.lst vs) := s6 _ _ hl5
      have hx6 : H6 x = some (.ins C dx []) := s6 _ _ (s5 _ _ (s4 _ _ (sT _ _ a5)))
      have q20 : D0 q2 = none := sD5.free n6
      have nq2l : q2 ≠ l := (ne_of_none hl5 n6).symm
      have nq2x : q2 ≠ x := (ne_of_none (s5 _ _ (s4 _ _ (sT _ _ a5))) n6).symm
      have hvl : vs.length ≤ 24 := by
        rw [DpAll.len a7, List.length_map, List.length_take]
        have := List.length_map (f := plainI) (as := ts)
        omega
      refine ⟨l, _, _, rfl, rfl, hl6, Nat.lt_of_le_of_lt hvl (by decide), ?_⟩
      refine ⟨upd D0 q2 (.tup ((plainI [a, b, c]).map V.int)), vs ++ [.ref q2], _, _, rfl, a1.trans (same_new q20), ?_, ?_, ?_, ?_, upd_same, ?_⟩
      · rw [upd_ne nq2x.symm]
        exact a2
      · rw [upd_ne nq2l.symm]
        exact a3
      · intro b o e
        by_cases eb : b = q2
        · subst eb
          rw [upd_same] at e
          cases e
          rw [upd_ne nq2l]
          exact h6
        · rw [upd_ne eb] at e
          rw [upd_ne (ne_of_none e a3)]
          exact sD6 _ _ e
      · rw [upd_ne nxl]
        exact hx6
      · rw [List.take_add_one, em, List.map_append]
        exact DpAll.snoc (DpAll.same (same_new q20) a7) (dp_tup (SqT.mk upd_same))
    · rintro σ H2 ⟨D0, vs, y3, y4, rfl, a1, a2, a3, a4, a5, a6, a7⟩
      rw [List.take_of_length_le (by rw [List.length_map]; omega)] at a7
      refine ⟨_, rfl, _, rfl, x, C, dx, [], rfl, a5, T.cl, T.nP, (by show 0 < 1000; decide), ?_⟩
      have sx : Same D0 (upd H2 x (.ins C dx (putF "_points" (.ref l) []))) := fun b o e => by
        rw [upd_ne (ne_of_none e a2)]
        exact a4 _ _ e
      refine q _ (a1.trans sx) ⟨dx, l, vs, upd_same, ?_, DpAll.same sx a7⟩
      rw [upd_ne nxl.symm]
      exact a6
end
end G0

namespace G0
open PySem PySem.Spec PyProof.Rows L2
section
variable {P : Program} {w : World} {K : PySem.W.Frag} {mg : Str → Option Value} {base : Heap}
/-- a list of told points -/
def Tups (K : PySem.W.Frag) (H : Hp) (l : Addr) (ts : List (List Int)) : Prop := ∃ vs, H l = some (.lst vs) ∧ DpAll K H vs (ts.map dTup)
theorem Tups.dp {K : PySem.W.Frag} {H : Hp} {l : Addr} {ts : List (List Int)} (h : Tups K H l ts) : Dp K H (.ref l) (.list (ts.map dTup)) := by
  obtain ⟨vs, h1, h2⟩ := h
  exact .lst (SqL.mk h1) h2
def sp_points (K : PySem.W.Frag) (C : Addr) : Sp := fun vs H Q _ => ∃ (x : Addr) (ts : List (List Int)), vs = [.ref x] ∧ SpotsAt K C H x ts ∧ ∀ H' l, Same H H' → H l = none → Tups K H' l ts → Q (.ref l) H'
theorem sc_points : FnScope ["self"] ["self"] (defScope s_Spots_points) := ⟨rfl, rfl, rfl, by decide +kernel, rfl, by decide +kernel, by decide +kernel⟩
theorem ok_points {f C : Addr} {fd : FuncData} (F : Fun K "points" "Spots.points" s_Spots_points f fd) (T : SpTxt K mg C) (B : Blt mg) : FnOk P w K mg base CX0 1 f fd ["self"] (sp_points K C) := by
  refine F.ok sc_points (fun vs H Q E h => ?_) (fun cdv A outer s H vs Q E hr h => ?_)
  · obtain ⟨x, ts, rfl, _⟩ := h
    rfl
  · obtain ⟨x, ts, rfl, ⟨dx, l, us, h1, h2, h3⟩, q⟩ := h
    refine ⟨_, pss_one (ps_ret (pe_callTy call_list_of (by rfl) B.list boot_tlist (pa_cons (pe_fld (pv 0) rfl) pa_nil))), ?_⟩
    refine ⟨_, rfl, x, C, dx, _, _, rfl, h1, T.cl, T.nP, rfl, l, us, rfl, .inl (SqL.mk h2), fun m hm => ?_⟩
    exact q _ m (same_new hm) hm ⟨us, upd_same, DpAll.same (same_new hm) h3⟩

def PlaceIs (ts : List (List Int)) (t : List Int) : Option Nat → Prop
  | none => t ∉ ts
  | some j => ts[j]? = some t ∧ ∀ m, m < j → ts[m]? ≠ some t
def placeV : Option Nat → V
  | none => .non
  | some j => .int (j : Nat)
def sp_place (K : PySem.W.Frag) (C : Addr) : Sp := fun vs H Q _ => ∃ (x : Addr) (ts : List (List Int)) (v : V) (t : List Int) (r : Option Nat), vs = [.ref x, v] ∧ SpotsAt K C H x ts ∧ Pt K H v t ∧ PlaceIs ts (plainI t) r ∧ ∀ H', Same H H' → Q (placeV r) H'
theorem sc_place : FnScope ["self", "point", "told"] ["self", "point"] (defScope s_Spots_place) := ⟨rfl, rfl, rfl, by decide +kernel, rfl, by decide +kernel, by decide +kernel⟩
theorem ok_place {f C f3 : Addr} {fd fd3 : FuncData} (F : Fun K "place" "Spots.place" s_Spots_place f fd) (T : SpTxt K mg C) (D3 : Df K mg "told_point" s_told_point ["point"] f3 fd3) (G3 : FnOk P w K mg base CX0 4 f3 fd3 ["point"] (sp_told_point K)) :
    FnOk P w K mg base CX0 5 f fd ["self", "point"] (sp_place K C) := by
  refine F.ok sc_place (fun vs H Q E h => ?_) (fun cdv A outer s H vs Q E hr h => ?_)
  · obtain ⟨x, ts, v, t, r, rfl, _⟩ := h
    rfl
  · obtain ⟨x, ts, v, t, r, rfl, ⟨dx, l, us, h1, h2, h3⟩, ⟨⟨p, a, b, c, rfl, rfl, sq⟩, nz, sm⟩, pl, q⟩ := h
    have hu65 : (A.deeper (envOfC "Spots.place" (defScope s_Spots_place) s.heap.objs.size f cdv)).units + 65 < cLine := by
      have := hr.un
      omega
    refine ⟨_, pss_cons (ps_set (i := 2) sc_place.nd rfl (Or.inl rfl) (pdf D3 G3 hr (pa_cons (pv 1) pa_nil)))
      (pss_cons (ps_if (pt_cmpR (op_notInD hu65) (pv 2) (pe_fld (pv 0) rfl) (by rfl)) (pss_one (ps_ret pe_non)) pss_nil)
      (pss_one (ps_ret (pe_bm PySem.F.plainAttrs_list PySem.F.slot_list_index PySem.F.type_list_index (mt_indexD hu65) (pe_fld (pv 0) rfl) (pa_cons (pv 2) pa_nil))))), ?_⟩
    refine ⟨_, rfl, p, a, b, c, rfl, sq, nz, sm, fun H1 t1 s1 n1 g1 => ?_⟩
    have i1 := s1 _ _ h1
    have i2 := s1 _ _ h2
    have i3 := DpAll.same s1 h3
    refine ⟨_, rfl, _, rfl, x, C, dx, _, _, rfl, i1, T.cl, T.nP, rfl, dTup (plainI [a, b, c]), ts.map dTup, dp_tup (SqT.mk g1), .lst (SqL.mk i2) i3, shaped_tup _, shaped_tups _, ?_⟩
    rw [any_eqv]
    match r, pl with
    | none, pl =>
      have e : decide (plainI [a, b, c] ∈ ts) = false := decide_eq_false pl
      rw [e]
      exact ⟨_, rfl, iteT (q H1 s1)⟩
    | some j, ⟨e1, e2⟩ =>
      have e : decide (plainI [a, b, c] ∈ ts) = true := decide_eq_true (List.mem_of_getElem? e1)
      rw [e]
      refine ⟨_, rfl, iteF ?_⟩
      refine ⟨_, rfl, x, C, dx, _, _, rfl, i1, T.cl, T.nP, rfl, .inl ⟨rfl, _, SqL.mk i2⟩, _, rfl, l, _, dTup (plainI [a, b, c]), ts.map dTup, j, dTup (plainI [a, b, c]), rfl, rfl, .lst (SqL.mk i2) i3, dp_tup (SqT.mk g1), shaped_tups _, shaped_tup _, ?_, ?_, ?_, q H1 s1⟩
      · rw [List.getElem?_map, e1]
        rfl
      · rw [eqv_tup]
        exact decide_eq_true rfl
      · intro m z hm hz
        rw [List.getElem?_map] at hz
        cases et : ts[m]? with
        | none =>
          rw [et] at hz
          cases hz
        | some u =>
          rw [et] at hz
          obtain rfl := Option.some.inj hz
          rw [eqv_tup]
          exact decide_eq_false fun e => e2 m hm (by rw [et, e])
end
end G0

set_option pp.oneline true
namespace G0
open PySem PySem.Spec PyProof.Rows L2
/-! min of four ints -/
theorem four_args (i j k l : Value) : argsOk "min" ⟨[i, j, k, l], []⟩ := by
  unfold argsOk
  kernel_rfl
section
variable {prog : Program} {w : World} {A : Around} {E : Value → Shared → Prop} {s : Shared}
theorem min_of_four {v1 v2 v3 v4 : Value} {Q : Value → Shared → Prop}
    (h : wpAny (model prog w) A.in1 (pyIter (.ref s.heap.objs.size)) (fun it s₂ => ∃ I fp wr n P St bt, it = .ref I ∧ Walks prog w A.in1 I fp wr n P St ∧ St 0 s₂.heap ∧ (∀ b ∈ fp, b < s₂.heap.objs.size) ∧ 0 < n ∧ CmpOf prog w A.in1 .Lt P bt ∧ ∀ v h' tk, P (argBest bt (n - 1)) v → (∀ b o, b ∉ wr → s₂.heap.get? b = some o → h'.get? b = some o) → Q v { s₂ with heap := h', toks := tk }) E { s with heap := s.heap.push { cls := .type "tuple", data := .seq #[v1, v2, v3, v4] } }) :
    wpAny (model prog w) A (call (.builtin "min") [v1, v2, v3, v4]) Q E s := by
  have nm : (toString "min" ++ toString ".loop" : String) = "min.loop" := by decide
  refine call_function_tree F.kind_min F.plain_min F.entry_min (four_args _ _ _ _) ?_
  show wpAny _ A.in1 (Builtin.Builtins.bindParams "min" ["key", "default"] 0 ⟨[], []⟩ >>= _) _ _ s; refine wpAny_bind (wpAny_of_eq (show Builtin.Builtins.bindParams "min" ["key", "default"] 0 ⟨[], []⟩ = pure [none, none] from rfl) ?_)
  show wpAny _ A.in1 (newTuple [v1, v2, v3, v4] >>= _) _ _ s
  refine wpAny_bind (wpAny_newObj_type (wpAny_bind (wpAny_mono h (fun it s₂ got => ?_) fun _ _ e => e)))
  obtain ⟨I, fp, wr, n, Pv, St, bt, rfl, W, st0, low, pos, cmp, fin⟩ := got
  refine wpAny_bind (wpAny_newObj_type ?_)
  have out : s₂.heap.objs.size ∉ fp := fun hm => Nat.lt_irrefl _ (low _ hm)
  rw [nm]
  refine wpAny_pure ⟨plainId_quiet F.plain_min_loop _, codeAny_min_loop_first W bt cmp s₂.heap.objs.size out pos (W.frame _ _ _ st0 fun b _ o e => Heap.get?_push_of_some _ e) (Heap.get?_push_size _ rfl) fun v h' tk hP hk => ?_⟩
  exact fin v h' tk hP fun b o nb e => hk b o nb (Nat.ne_of_lt (Heap.lt_size e)) (Heap.get?_push_of_some _ e)
theorem min_four_ints {i j k l : Int} {t1 t2 t3 t4 : Tok} {Q : Value → Shared → Prop} (cool : A.handled = none)
    (h : ∀ h' tk t, (∀ d o, s.heap.get? d = some o → h'.get? d = some o) → Q (.int (min (min i j) (min k l)) t) { s with heap := h', toks := tk }) :
    wpAny (model prog w) A (call (.builtin "min") [.int i t1, .int j t2, .int k t3, .int l t4]) Q E s := by
  have hT : (s.heap.push { cls := .type "tuple", data := .seq #[.int i t1, .int j t2, .int k t3, .int l t4] }).IsTuple s.heap.objs.size (intItems #[(i, t1), (j, t2), (k, t3), (l, t4)]) := ⟨_, Heap.get?_push_size _ rfl, rfl, 0, by simp [intItems]⟩
  refine min_of_four (wpAny_pyIter_tuple hT ?_)
  have sz : (s.heap.push { cls := .type "tuple", data := .seq #[.int i t1, .int j t2, .int k t3, .int l t4] }).objs.size = s.heap.objs.size + 1 := Heap.size_push ..
  refine ⟨_, [_, s.heap.objs.size], [_], _, _, _, _, rfl, Walks.tuple (A := A.in1) cool _ s.heap.objs.size (by rw [sz]; exact Nat.ne_of_lt (Nat.lt_succ_self _)) (intItems #[(i, t1), (j, t2), (k, t3), (l, t4)]), ⟨⟨_, Heap.get?_push_size _ rfl, rfl, rfl⟩, hT.push _⟩, tup_iter hT, by simp [intItems], CmpOf.ints_lt (numAt #[(i, t1), (j, t2), (k, t3), (l, t4)]) (fun _ _ => intItems_at), fun v h' tk hP hk => ?_⟩
  have old : ∀ d o, s.heap.get? d = some o → h'.get? d = some o := fun d o e => hk d o (fun mem => by
      rcases List.mem_cons.mp mem with e1 | mem
      · have := Heap.lt_size e
        rw [e1, sz] at this
        exact Nat.lt_irrefl _ (Nat.lt_of_succ_lt this)
      · cases mem) (Heap.get?_push_of_some _ (Heap.get?_push_of_some _ e))
  obtain ⟨t, rfl⟩ := intItems_at hP
  have esz : (intItems #[(i, t1), (j, t2), (k, t3), (l, t4)]).size = 4 := by simp [intItems]
  rw [esz]
  obtain ⟨g1, g2⟩ := argBest_lt (numAt #[(i, t1), (j, t2), (k, t3), (l, t4)]) 3
  have := h h' tk t old
  have e : numAt #[(i, t1), (j, t2), (k, t3), (l, t4)] (argBest (fun a b => decide (numAt #[(i, t1), (j, t2), (k, t3), (l, t4)] a < numAt #[(i, t1), (j, t2), (k, t3), (l, t4)] b)) 3) = min (min i j) (min k l) := by
    have n0 : numAt #[(i, t1), (j, t2), (k, t3), (l, t4)] 0 = i := rfl
    have n1 : numAt #[(i, t1), (j, t2), (k, t3), (l, t4)] 1 = j := rfl
    have n2 : numAt #[(i, t1), (j, t2), (k, t3), (l, t4)] 2 = k := rfl
    have n3 : numAt #[(i, t1), (j, t2), (k, t3), (l, t4)] 3 = l := rfl
    have q0 := g2 0 (by omega)
    have q1 := g2 1 (by omega)
    have q2 := g2 2 (by omega)
    have q3 := g2 3 (by omega)
    revert g1 q0 q1 q2 q3
    generalize argBest (fun a b => decide (numAt #[(i, t1), (j, t2), (k, t3), (l, t4)] a < numAt #[(i, t1), (j, t2), (k, t3), (l, t4)] b)) 3 = r
    intro g1 q0 q1 q2 q3
    rw [n0] at q0
    rw [n1] at q1
    rw [n2] at q2
    rw [n3] at q3
    have : r = 0 ∨ r = 1 ∨ r = 2 ∨ r = 3 := by omega
    rcases this with rfl | rfl | rfl | rfl
    · rw [n0] at *; omega
    · rw [n1] at *; omega
    · rw [n2] at *; omega
    · rw [n3] at *; omega
  show Q (.int (numAt #[(i, t1), (j, t2), (k, t3), (l, t4)] (argBest (fun a b => decide (numAt #[(i, t1), (j, t2), (k, t3), (l, t4)] a < numAt #[(i, t1), (j, t2), (k, t3), (l, t4)] b)) 3)) t) _
  rw [e]
  exact this
end
theorem call_min4 {X : Cx} (calm : X.calm = true) : CallR X (.builtin "min") (fun xs H Q => ∃ i j k l, xs = [V.int i, .int j, .int k, .int l] ∧ Q (.int (min (min i j) (min k l))) H) := by
  intro pn s σ H xs us Q J r h
  obtain ⟨i, j, k, l, rfl, q⟩ := h
  cases r with
  | cons r1 r => cases r with
    | cons r2 r => cases r with
      | cons r3 r => cases r with
        | cons r4 r =>
          cases r
          obtain ⟨t1, rfl⟩ := r1
          obtain ⟨t2, rfl⟩ := r2
          obtain ⟨t3, rfl⟩ := r3
          obtain ⟨t4, rfl⟩ := r4
          exact min_four_ints (J.ok.hd calm) fun h' tk t keep => (⟨V.int (min (min i j) (min k l)), H, J.kept keep, ⟨t, rfl⟩, q⟩ : ∃ v H', Inv X pn σ H' _ ∧ RelV v _ ∧ Q v H')
end G0

namespace G0
/-! boxes, their rows -/
def bump (xs : List Int) (i : Nat) : List Int := xs.set i (xs.getD i 0 + 1)
def idxs (a b : Nat) : List Nat := (List.range' 0 a).flatMap fun i => (List.range' 0 b).map fun j => i + j
def boxI (a b : Nat) : List Int := (idxs a b).foldl bump (List.replicate (a + b - 1) 0)
def sidesOf (a : Nat) : List (Nat × Nat) := ((List.range' 1 (10 - a)).filter fun b => decide (a * b ≤ 24)).map fun b => (a, b)
def sidesI : List (Nat × Nat) := (List.range' 1 9).flatMap sidesOf
def minBox (a b : Nat) : List Int := (List.range' 0 (a + b - 1)).map fun (k : Nat) => min (min ((k : Int) + 1) (((a + b - 1 : Nat) : Int) - k)) (min (a : Int) (b : Int))
def sideB (a b : Nat) : Bool :=
  decide (boxI a b = minBox a b) && decide (boxI b a = minBox a b) && decide (minBox b a = minBox a b) && decide ((boxI a b).reverse = boxI a b) && decide (sizesI (boxI a b) (min a b) = (List.range' 0 (min a b)).map fun (s : Nat) => ((a + b : Nat) : Int) - 1 - 2 * s)
    && decide ((boxI a b).sum = ((a * b : Nat) : Int)) && decide ((boxI a b).length = a + b - 1) && decide (1 ≤ a) && decide (1 ≤ b) && decide (a * b ≤ 24) && decide (a + b ≤ 10) && decide ((b, a) ∈ sidesI) && (ff (boxI a b)).isNone && decide (((min a b : Nat) : Int) ∈ boxI a b) && (boxI a b).all fun y => decide (y ≤ ((min a b : Nat) : Int))
theorem sides_all : (sidesI.all fun ab => sideB ab.1 ab.2) = true := by decide +kernel
def hitsOf (ns : List Int) : List (Nat × Nat) := sidesI.filter fun ab => decide (ab.1 ≤ ab.2) && decide (boxI ab.1 ab.2 = ns)
def decs : Nat → List (List Int)
  | 0 => [[]]
  | n + 1 => decs n ++ (decs n).map fun z => ((n + 1 : Nat) : Int) :: z
theorem mem_decs : ∀ (n : Nat) (zs : List Int), zs.Pairwise (· > ·) → (∀ z ∈ zs, 0 < z ∧ z ≤ (n : Int)) → zs ∈ decs n
  | 0, zs, _, h => by
    cases zs with
    | nil => exact List.mem_singleton.mpr rfl
    | cons z zs =>
      have := h z (by simp)
      omega
  | n + 1, zs, hp, h => by
    unfold decs
    rw [List.mem_append]
    cases zs with
    | nil => exact .inl (mem_decs n [] .nil fun z hz => by cases hz)
    | cons z zs =>
      have hz := h z (by simp)
      have h2 := List.pairwise_cons.mp hp
      by_cases e : z = ((n + 1 : Nat) : Int)
      · refine .inr (List.mem_map.mpr ⟨zs, mem_decs n zs h2.2 fun y hy => ?_, by rw [e]⟩)
        have := h2.1 y hy
        have := h y (by simp [hy])
        omega
      · refine .inl (mem_decs n (z :: zs) hp fun y hy => ?_)
        have := h y hy
        rcases List.mem_cons.mp hy with rfl | hy
        · omega
        · have := h2.1 y hy
          omega
def boxes : List ((Nat × Nat) × List Int) := (sidesI.filter fun ab => decide (ab.1 ≤ ab.2)).map fun ab => (ab, boxI ab.1 ab.2)
def lenB0 (ns : List Int) : Bool := decide (0 < ns.length) && decide (ns.sum ≤ 24)
def rowChk (bs : List ((Nat × Nat) × List Int)) (zs : List Int) : Bool :=
  let ns := rowOf zs (zs.headD 0).toNat
  let hits := (bs.filter fun x => decide (x.2 = ns)).map (·.1)
  if ns.reverse = ns then decide (hits = [(zs.length, ns.length + 1 - zs.length)]) else decide (hits = [])
theorem rows_all : ((decs 9).filter lenB0).all (rowChk boxes) = true := by decide +kernel
end G0

namespace G0
structure SideP (a b : Nat) : Prop where
  e1 : boxI a b = minBox a b
  e2 : boxI b a = minBox a b
  e3 : minBox b a = minBox a b
  rev : (boxI a b).reverse = boxI a b
  sz : sizesI (boxI a b) (min a b) = (List.range' 0 (min a b)).map fun (s : Nat) => ((a + b : Nat) : Int) - 1 - 2 * s
  sm : (boxI a b).sum = ((a * b : Nat) : Int)
  len : (boxI a b).length = a + b - 1
  a1 : 1 ≤ a
  b1 : 1 ≤ b
  ab : a * b ≤ 24
  s10 : a + b ≤ 10
  sw : (b, a) ∈ sidesI
  fn : ff (boxI a b) = none
  mm : ((min a b : Nat) : Int) ∈ boxI a b
  mx : ∀ y ∈ boxI a b, y ≤ ((min a b : Nat) : Int)
theorem side_ok {a b : Nat} (h : (a, b) ∈ sidesI) : SideP a b := by
  have t := List.all_eq_true.mp sides_all _ h
  simp only [sideB, Bool.and_eq_true, decide_eq_true_eq, Option.isNone_iff_eq_none, List.all_eq_true] at t
  obtain ⟨⟨⟨⟨⟨⟨⟨⟨⟨⟨⟨⟨⟨⟨e1, e2⟩, e3⟩, rev⟩, sz⟩, sm⟩, len⟩, a1⟩, b1⟩, ab⟩, s10⟩, sw⟩, fn⟩, mm⟩, mx⟩ := t
  exact ⟨e1, e2, e3, rev, sz, sm, len, a1, b1, ab, s10, sw, fn, mm, mx⟩
theorem hits_boxes (ns : List Int) : (boxes.filter fun x => decide (x.2 = ns)).map (·.1) = hitsOf ns := by
  unfold boxes hitsOf
  rw [List.filter_map, List.map_map, List.filter_filter]
  have : ((·.1) ∘ fun ab : Nat × Nat => (ab, boxI ab.1 ab.2)) = id := by
    funext x
    rfl
  rw [this, List.map_id]
  congr 1
  funext x
  rw [Bool.and_comm]
  rfl
theorem row_hits {ns : List Int} (r : RowI ns) {m : Int} (mm : m ∈ ns) (mx : ∀ y ∈ ns, y ≤ m) : (ns.reverse = ns → hitsOf ns = [(m.toNat, ns.length + 1 - m.toNat)]) ∧ (ns.reverse ≠ ns → hitsOf ns = []) := by
  obtain ⟨ok, back, sm, z0⟩ := row_sizes r mm mx
  have zl : (sizesI ns m.toNat).length = m.toNat := by unfold sizesI; simp
  revert ok back sm z0 zl
  generalize sizesI ns m.toNat = zs
  intro ok back sm z0 zl
  have mem : zs ∈ decs 9 := mem_decs 9 zs ok.dec fun z hz => ⟨ok.pos z hz, ok.hi z hz⟩
  have lb : lenB0 zs = true := by
    unfold lenB0
    rw [decide_eq_true (List.length_pos_iff.mpr ok.ne), decide_eq_true ok.sum]
    rfl
  have h := List.all_eq_true.mp rows_all zs (List.mem_filter.mpr ⟨mem, lb⟩)
  have hd : zs.headD 0 = (ns.length : Int) := by
    cases zs with
    | nil => cases z0
    | cons z z' => simpa using z0
  unfold rowChk at h
  rw [hd, show ((ns.length : Nat) : Int).toNat = ns.length by omega, back] at h
  dsimp only at h
  rw [hits_boxes, zl] at h
  constructor
  · intro c
    rw [if_pos c] at h
    exact of_decide_eq_true h
  · intro c
    rw [if_neg c] at h
    exact of_decide_eq_true h
end G0

set_option pp.oneline true
namespace G0
open PySem PySem.Spec PyProof.Rows L2
abbrev s_mirrored : Stmt := top 21
abbrev s_is_mirrored : Stmt := top 22
abbrev s_box : Stmt := top 23
abbrev s_check_side : Stmt := top 24
abbrev s_box_of : Stmt := top 25
section
variable {P : Program} {w : World} {K : PySem.W.Frag} {mg : Str → Option Value} {base : Heap}
def sp_mirr (K : PySem.W.Frag) : Sp := fun vs H Q _ => ∃ (a : Addr) (ns : List Int), vs = [.ref a] ∧ Sq K H a (ns.map V.int) ∧ ns ≠ [] ∧ RowI ns ∧ ∀ H' L, Same H H' → H L = none → H' L = some (.lst (ns.reverse.map V.int)) → Q (.ref L) H'
theorem sc_mirr : FnScope ["row"] ["row"] (defScope s_mirrored) := ⟨rfl, rfl, rfl, by decide +kernel, rfl, by decide +kernel, by decide +kernel⟩
theorem ok_mirr {f f1 : Addr} {fd fd1 : FuncData} (F : Fun K "mirrored" "mirrored" s_mirrored f fd) (B : Blt mg) (Dchk : Df K mg "check_row" s_check_row ["row"] f1 fd1) (Gchk : FnOk P w K mg base CX0 5 f1 fd1 ["row"] (sp_chk K)) : FnOk P w K mg base CX0 6 f fd ["row"] (sp_mirr K) := by
  refine F.ok sc_mirr (fun vs H Q E h => ?_) (fun cdv A outer s H vs Q E hr h => ?_)
  · obtain ⟨a, ns, rfl, _⟩ := h
    rfl
  · obtain ⟨a, ns, rfl, hs, ne, r, q⟩ := h
    have r5 : Room 5 _ := hr.mono (by decide)
    refine ⟨_, pss_cons (ps_expr (pdf Dchk Gchk r5 (pa_cons (pv 0) pa_nil)))
      (pss_one (ps_ret (pe_revL (pe_callTy call_list_of (by rfl) B.list boot_tlist (pa_cons (pv 0) pa_nil))))), ?_⟩
    refine ⟨_, rfl, a, ns, rfl, hs, ne, r, fun H1 s1 => ?_⟩
    refine ⟨_, rfl, a, _, rfl, (hs.same s1), fun l hl => ⟨l, _, rfl, SqL.mk upd_same, fun L hL => ?_⟩⟩
    have s2 := same_new (o := .lst (ns.map V.int)) hl
    have s3 := same_new (o := .lst (ns.map V.int).reverse) hL
    exact q _ L ((s1.trans s2).trans s3) ((s1.trans s2).free hL) (by rw [upd_same, List.map_reverse])
def sp_ismirr (K : PySem.W.Frag) : Sp := fun vs H Q _ => ∃ (a : Addr) (ns : List Int), vs = [.ref a] ∧ Sq K H a (ns.map V.int) ∧ ns ≠ [] ∧ RowI ns ∧ ∀ H', Same H H' → Q (.bl (decide (ns.reverse = ns))) H'
theorem sc_ismirr : FnScope ["row"] ["row"] (defScope s_is_mirrored) := ⟨rfl, rfl, rfl, by decide +kernel, rfl, by decide +kernel, by decide +kernel⟩
theorem ok_ismirr {f f1 : Addr} {fd fd1 : FuncData} (F : Fun K "is_mirrored" "is_mirrored" s_is_mirrored f fd) (B : Blt mg) (Dmi : Df K mg "mirrored" s_mirrored ["row"] f1 fd1) (Gmi : FnOk P w K mg base CX0 6 f1 fd1 ["row"] (sp_mirr K)) : FnOk P w K mg base CX0 7 f fd ["row"] (sp_ismirr K) := by
  refine F.ok sc_ismirr (fun vs H Q E h => ?_) (fun cdv A outer s H vs Q E hr h => ?_)
  · obtain ⟨a, ns, rfl, _⟩ := h
    rfl
  · obtain ⟨a, ns, rfl, hs, ne, r, q⟩ := h
    have hu := hr.units
    have r6 : Room 6 _ := hr.mono (by decide)
    refine ⟨_, pss_one (ps_ret (pe_cmpR (op_eqD hu) (pdf Dmi Gmi r6 (pa_cons (pv 0) pa_nil)) (pe_callTy call_list_of (by rfl) B.list boot_tlist (pa_cons (pv 0) pa_nil)) (nomark _))), ?_⟩
    refine ⟨_, rfl, a, ns, rfl, hs, ne, r, fun H1 L s1 hL h1 => ?_⟩
    refine ⟨_, rfl, a, _, rfl, (hs.same s1), fun l hl => ?_⟩
    have s2 := same_new (o := .lst (ns.map V.int)) hl
    refine ⟨dLst ns.reverse, dLst ns, dp_lst (SqL.mk (s2 _ _ h1)), dp_lst (SqL.mk upd_same), shaped_lst _, shaped_lst _, ?_⟩
    rw [eqv_lst]
    exact q _ (s1.trans s2)
def sp_side : Sp := fun vs H Q _ => ∃ n : Int, vs = [.int n] ∧ 1 ≤ n ∧ Q .non H
theorem sc_side : FnScope ["many"] ["many"] (defScope s_check_side) := ⟨rfl, rfl, rfl, by decide +kernel, rfl, by decide +kernel, by decide +kernel⟩
theorem ok_side {f f1 : Addr} {fd fd1 : FuncData} (F : Fun K "check_side" "check_side" s_check_side f fd) (B : Blt mg) (Dcnt : Df K mg "is_count" s_is_count ["value"] f1 fd1) (Gcnt : FnOk P w K mg base CX0 2 f1 fd1 ["value"] (sp_cntA K)) : FnOk P w K mg base CX0 3 f fd ["many"] sp_side := by
  refine F.ok sc_side (fun vs H Q E h => ?_) (fun cdv A outer s H vs Q E hr h => ?_)
  · obtain ⟨n, rfl, _⟩ := h
    rfl
  · obtain ⟨n, rfl, h1, q⟩ := h
    have r2 : Room 2 _ := hr.mono (by decide)
    refine ⟨_, pss_one (ps_if (PW.pt (pw_or (pt_not (pt_val (pdf Dcnt Gcnt r2 (pa_cons (pv 0) pa_nil)))) (pw_or1 (pt_cmpR op_eq (pv 0) pe_int (nomark _))))) (pss_one ps_never) pss_nil), ?_⟩
    refine ⟨_, rfl, .int n, .int n, rfl, .int n, true, ?_, ?_⟩
    · show V.bl (decide (0 ≤ n)) = _
      rw [decide_eq_true (by omega)]
    refine iteF ⟨_, rfl, rfl, _, rfl, ?_⟩
    rw [decide_eq_false (show ¬ V.int n = V.int 0 from fun z => by have := V.int.inj z; omega)]
    exact iteF q
def sp_box : Sp := fun vs H Q _ => ∃ a b : Nat, vs = [.int (a : Nat), .int (b : Nat)] ∧ 1 ≤ a ∧ 1 ≤ b ∧ a * b ≤ 24 ∧ a + b ≤ 10 ∧ ∀ H' L, Same H H' → H L = none → H' L = some (.lst ((minBox a b).map V.int)) → Q (.ref L) H'
theorem sc_box : FnScope ["first", "second", "places", "place"] ["first", "second"] (defScope s_box) := ⟨rfl, rfl, rfl, by decide +kernel, rfl, by decide +kernel, by decide +kernel⟩
theorem ok_box {f f1 : Addr} {fd fd1 : FuncData} (F : Fun K "box" "box" s_box f fd) (B : Blt mg) {t1 t2 : Tok} (m9 : mg "MOST_PLACES" = some (.int 9 t1)) (m24 : mg "MOST_SUM" = some (.int 24 t2)) (Dcsd : Df K mg "check_side" s_check_side ["many"] f1 fd1) (Gcsd : FnOk P w K mg base CX0 3 f1 fd1 ["many"] sp_side) : FnOk P w K mg base CX0 4 f fd ["first", "second"] sp_box := by
  refine F.ok sc_box (fun vs H Q E h => ?_) (fun cdv A outer s H vs Q E hr h => ?_)
  · obtain ⟨a, b, rfl, _⟩ := h
    rfl
  · obtain ⟨a, b, rfl, a1, b1, h24, h10, q⟩ := h
    have r3 : Room 3 _ := hr.mono (by decide)
    refine ⟨_, pss_cons (ps_expr (pdf Dcsd Gcsd r3 (pa_cons (pv 0) pa_nil)))
      (pss_cons (ps_expr (pdf Dcsd Gcsd r3 (pa_cons (pv 1) pa_nil)))
      (pss_cons (ps_if (PW.pt (pw_or (pt_cmpR op_gt (pe_op op_mul (pv 0) (pv 1)) (pe_glob (v := V.int 24) rfl m24 ⟨_, rfl⟩) (nomark _)) (pw_or1 (pt_cmpR op_gt (pe_op op_add (pv 0) (pv 1)) (pe_op op_add (pe_glob (v := V.int 9) rfl m9 ⟨_, rfl⟩) pe_int) (nomark _))))) (pss_one ps_never) pss_nil)
      (pss_cons (ps_set (i := 2) sc_box.nd rfl (Or.inr rfl) (pe_op op_sub (pe_op op_add (pv 0) (pv 1)) pe_int))
      (pss_one (ps_ret (pe_lc (own := [("place", 3)]) (g := gName 3) (tt := tYes) rfl sc_box.nd (pi_range1 (by rfl) B.range (pa_cons (pv 2) pa_nil)) (blkOk_by (N := ["first", "second", "places", "place"]) (sc := defScope s_box) (by decide +kernel)) (fun _ _ _ _ _ => pg_name (i := 3) sc_box.nd rfl (Or.inl rfl)) (fun _ _ _ _ _ => pts_nil) (fun _ _ _ _ _ => (pe_callB (call_min4 rfl) (by rfl) B.min boot_min (pa_cons (pe_op op_add (pv 3) pe_int) (pa_cons (pe_op op_sub (pv 2) (pv 3)) (pa_cons (pv 0) (pa_cons (pv 1) pa_nil)))))))))))), ?_⟩
    have hm : (a : Int) * (b : Int) = ((a * b : Nat) : Int) := by simp
    have ab9 : a ≤ 9 ∧ b ≤ 9 := ⟨by omega, by omega⟩
    refine ⟨_, rfl, a, rfl, by omega, _, rfl, b, rfl, by omega, ?_⟩
    refine ⟨_, rfl, _, rfl, _, _, rfl, rfl, .inl ⟨by omega, by omega⟩, _, _, rfl, rfl, _, rfl, ?_⟩
    rw [hm, decide_eq_false (show ¬ (24 : Int) < ((a * b : Nat) : Int) by omega)]
    refine iteF ⟨_, rfl, _, rfl, _, _, rfl, rfl, _, _, rfl, rfl, _, _, rfl, rfl, _, rfl, ?_⟩
    rw [decide_eq_false (show ¬ (9 : Int) + 1 < (a : Int) + (b : Int) by omega)]
    refine iteF ?_
    dsimp only [tNext]
    refine ⟨_, rfl, _, rfl, _, _, rfl, rfl, _, _, rfl, rfl, ?_⟩
    have ep : (a : Int) + (b : Int) - 1 = ((a + b - 1 : Nat) : Int) := by omega
    dsimp only
    rw [ep]
    let FJ : Nat → Int := fun k => min (min ((k : Int) + 1) (((a + b - 1 : Nat) : Int) - k)) (min (a : Int) (b : Int))
    refine ⟨_, rfl, _, rfl, by omega, by omega, fun L hL => lc_range (n := (((a + b - 1 : Nat) : Int)).toNat) (fun i H2 => Same H H2 ∧ H2 L = some (.lst (((List.range' 0 i).map FJ).map V.int))) ⟨same_new hL, upd_same⟩ ?_ ?_⟩
    · rintro i H2 hi ⟨s2, h2⟩
      have e0 : (0 : Int) + (i : Nat) = (i : Nat) := by omega
      rw [e0]
      refine ⟨rfl, yes_ite ?_⟩
      refine ⟨_, rfl, _, _, rfl, rfl, _, rfl, _, rfl, _, _, rfl, rfl, _, rfl, _, rfl, _, _, _, _, rfl, ?_⟩
      refine ⟨_, h2, by rw [List.length_map, List.length_map, List.length_range', sizeLine_eq]; omega, s2.put hL, ?_⟩
      rw [upd_same, List.range'_concat, List.map_append, List.map_append]
      show some (HO.lst (_ ++ [V.int (FJ i)])) = some (HO.lst (_ ++ [V.int (FJ (0 + 1 * i))]))
      rw [show 0 + 1 * i = i by omega]
    · rintro H2 ⟨s2, h2⟩
      exact q H2 L s2 hL h2
def sp_boxof (K : PySem.W.Frag) : Sp := fun vs H Q _ => ∃ (a : Addr) (ns : List Int), vs = [.ref a] ∧ Sq K H a (ns.map V.int) ∧ ns ≠ [] ∧ RowI ns ∧
  (ns.reverse = ns → ∀ m, m ∈ ns → (∀ y ∈ ns, y ≤ m) → ∀ H' t, Same H H' → H t = none → H' t = some (.tup [.int m, .int ((ns.length : Int) + 1 - m)]) → Q (.ref t) H') ∧ (ns.reverse ≠ ns → ∀ H', Same H H' → Q .non H')
theorem sc_boxof : FnScope ["row", "lesser"] ["row"] (defScope s_box_of) := ⟨rfl, rfl, rfl, by decide +kernel, rfl, by decide +kernel, by decide +kernel⟩
theorem ok_boxof {f f1 : Addr} {fd fd1 : FuncData} (F : Fun K "box_of" "box_of" s_box_of f fd) (B : Blt mg) (Dim : Df K mg "is_mirrored" s_is_mirrored ["row"] f1 fd1) (Gim : FnOk P w K mg base CX0 7 f1 fd1 ["row"] (sp_ismirr K)) : FnOk P w K mg base CX0 8 f fd ["row"] (sp_boxof K) := by
  refine F.ok sc_boxof (fun vs H Q E h => ?_) (fun cdv A outer s H vs Q E hr h => ?_)
  · obtain ⟨a, ns, rfl, _⟩ := h
    rfl
  · obtain ⟨a, ns, rfl, hs, ne, r, q, e⟩ := h
    have r7 : Room 7 _ := hr.mono (by decide)
    have len : (ns.map V.int).length = ns.length := List.length_map ..
    refine ⟨_, pss_cons (ps_if (pt_not (pt_val (pdf Dim Gim r7 (pa_cons (pv 0) pa_nil)))) (pss_one (ps_ret pe_non)) pss_nil)
      (pss_cons (ps_set (i := 1) sc_boxof.nd rfl (Or.inl rfl) (pe_callB (cr_maxA rfl) (by rfl) B.max boot_max (pa_cons (pv 0) pa_nil)))
      (pss_one (ps_ret (pe_tup (pa_cons (pv 1) (pa_cons (pe_op op_sub (pe_op op_add (pe_callB call_len_seq (by rfl) B.len PySem.boot_len (pa_cons (pv 0) pa_nil)) pe_int) (pv 1)) pa_nil)))))), ?_⟩
    refine ⟨_, rfl, a, ns, rfl, hs, ne, r, fun H1 s1 => ⟨_, rfl, ?_⟩⟩
    by_cases c : ns.reverse = ns
    · rw [decide_eq_true c]
      refine iteF ⟨_, rfl, a, ns, rfl, hs.same s1, List.length_pos_iff.mpr ne, fun m mm mx => ?_⟩
      refine ⟨_, rfl, _, rfl, a, _, rfl, (hs.same s1), _, _, rfl, rfl, _, rfl, _, _, rfl, rfl, by show 2 ≤ sizeLine; decide, fun t ht => ?_⟩
      exact q c m mm mx _ t (s1.trans (same_new ht)) (s1.free ht) (by rw [upd_same, len])
    · rw [decide_eq_false c]
      exact iteT (e c _ s1)
end
end G0

set_option pp.oneline true
namespace G0
open PySem PySem.Spec PyProof.Rows L2
abbrev s_pick : Stmt := top 42
abbrev s_lbox : Stmt := top 45
abbrev s_sides : Stmt := top 46
/-- pairs of numbers as tuples -/
def PairsAt (H : Hp) (us : List V) (ps : List (Nat × Nat)) : Prop := us.length = ps.length ∧ ∀ (i : Nat) (ab : Nat × Nat), ps[i]? = some ab → ∃ t, us[i]? = some (.ref t) ∧ H t = some (.tup [.int (ab.1 : Nat), .int (ab.2 : Nat)])
theorem PairsAt.same {H H' : Hp} {us : List V} {ps : List (Nat × Nat)} (h : PairsAt H us ps) (e : Same H H') : PairsAt H' us ps := ⟨h.1, fun i ab hi => by
  obtain ⟨t, h1, h2⟩ := h.2 i ab hi
  exact ⟨t, h1, e _ _ h2⟩⟩
theorem PairsAt.app {H : Hp} {us vs : List V} {ps qs : List (Nat × Nat)} (h : PairsAt H us ps) (g : PairsAt H vs qs) : PairsAt H (us ++ vs) (ps ++ qs) := by
  refine ⟨by rw [List.length_append, List.length_append, h.1, g.1], fun i ab hi => ?_⟩
  by_cases c : i < ps.length
  · rw [List.getElem?_append_left c] at hi
    rw [List.getElem?_append_left (by rw [h.1]; exact c)]
    exact h.2 i ab hi
  · rw [List.getElem?_append_right (by omega)] at hi
    rw [List.getElem?_append_right (by rw [h.1]; omega), h.1]
    exact g.2 _ ab hi
theorem PairsAt.one {H : Hp} {t : Addr} {ab : Nat × Nat} (h : H t = some (.tup [.int (ab.1 : Nat), .int (ab.2 : Nat)])) : PairsAt H [.ref t] [ab] := ⟨rfl, fun i x hi => by
  cases i with
  | zero => cases hi; exact ⟨t, rfl, h⟩
  | succ i => cases hi⟩
theorem foldl_bump_len : ∀ (is : List Nat) (xs : List Int), (is.foldl bump xs).length = xs.length
  | [], xs => rfl
  | i :: is, xs => by
    rw [List.foldl_cons, foldl_bump_len is]
    unfold bump
    rw [List.length_set]
section
variable {P : Program} {w : World} {K : PySem.W.Frag} {mg : Str → Option Value} {base : Heap}
def sp_pick (K : PySem.W.Frag) : Sp := fun vs H Q _ => ∃ (p l : Addr) (D : Hp) (us : List V), vs = [.ref p, .ref l] ∧ Wd p D H ∧ D l = some (.lst us) ∧ 1 ≤ us.length ∧ us.length < 1000000 ∧ ∀ (H' : Hp) (v : V) (i : Nat), Wd p D H' → us[i]? = some v → Q v H'
theorem sc_pick : FnScope ["_law_pot_here", "_law_some"] ["_law_pot_here", "_law_some"] (defScope s_pick) := ⟨rfl, rfl, rfl, by decide +kernel, rfl, by decide +kernel, by decide +kernel⟩
theorem ok_pick {f f1 : Addr} {fd fd1 : FuncData} (F : Fun K "_law_pick" "_law_pick" s_pick f fd) (B : Blt mg) (Ddraw : Df K mg "_law_draw" s_draw ["_law_pot_here", "_law_size"] f1 fd1) (Gdraw : FnOk P w K mg base CX0 1 f1 fd1 ["_law_pot_here", "_law_size"] sp_draw) :
    FnOk P w K mg base CX0 2 f fd ["_law_pot_here", "_law_some"] (sp_pick K) := by
  refine F.ok sc_pick (fun vs H Q E h => ?_) (fun cdv A outer s H vs Q E hr h => ?_)
  · obtain ⟨p, l, D, us, rfl, _⟩ := h
    rfl
  · obtain ⟨p, l, D, us, rfl, wd, hs, l1, l2, q⟩ := h
    refine ⟨_, pss_one (ps_ret (pe_ix ix_list (pv 1) (pdf Ddraw Gdraw hr (pa_cons (pv 0) (pa_cons (pe_callB call_len_seq (by rfl) B.len PySem.boot_len (pa_cons (pv 1) pa_nil)) pa_nil))) (fun _ _ => rfl))), ?_⟩
    refine ⟨_, rfl, _, rfl, _, rfl, l, us, rfl, .inl (SqL.mk (wd.s _ _ hs)), p, _, D, rfl, wd, by omega, by omega, fun H' d wd' d0 d1 => ?_⟩
    obtain ⟨j, rfl⟩ := Int.eq_ofNat_of_zero_le d0
    have hj : j < us.length := by omega
    exact ⟨l, us, _, us[j], rfl, rfl, SqL.mk (wd'.s _ _ hs), atI_nat (List.getElem?_eq_getElem hj), q _ _ j wd' (List.getElem?_eq_getElem hj)⟩
def sp_lbox : Sp := fun vs H Q _ => ∃ a b : Nat, vs = [.int (a : Nat), .int (b : Nat)] ∧ 1 ≤ a ∧ 1 ≤ b ∧ a ≤ 9 ∧ b ≤ 9 ∧ ∀ H' L, Same H H' → H L = none → H' L = some (.lst ((boxI a b).map V.int)) → Q (.ref L) H'
theorem sc_lbox : FnScope ["_law_one", "_law_other", "_law_found", "_law_near", "_law_far"] ["_law_one", "_law_other"] (defScope s_lbox) := ⟨rfl, rfl, rfl, by decide +kernel, rfl, by decide +kernel, by decide +kernel⟩
theorem ok_lbox {f : Addr} {fd : FuncData} (F : Fun K "_law_box" "_law_box" s_lbox f fd) (B : Blt mg) : FnOk P w K mg base CX0 1 f fd ["_law_one", "_law_other"] sp_lbox := by
  refine F.ok sc_lbox (fun vs H Q E h => ?_) (fun cdv A outer s H vs Q E hr h => ?_)
  · obtain ⟨a, b, rfl, _⟩ := h
    rfl
  · obtain ⟨a, b, rfl, a1, b1, a9, b9, q⟩ := h
    refine ⟨_, pss_cons (ps_set (i := 2) sc_lbox.nd rfl (Or.inl rfl) (pe_op op_rep (pe_lst (pa_cons pe_int pa_nil)) (pe_op op_sub (pe_op op_add (pv 0) (pv 1)) pe_int)))
      (pss_cons (ps_for PassesOwn.never rfl (pi_range1 (by rfl) B.range (pa_cons (pv 0) pa_nil)) (pg_name (i := 3) sc_lbox.nd rfl (Or.inl rfl)) (pss_one (ps_for PassesOwn.never rfl (pi_range1 (by rfl) B.range (pa_cons (pv 1) pa_nil)) (pg_name (i := 4) sc_lbox.nd rfl (Or.inl rfl)) (pss_one (ps_asg (pe_op op_add (pe_ix ix_list (pv 2) (pe_op op_add (pv 3) (pv 4)) (fun _ _ => rfl)) pe_int) (pg_sub (pv 2) (pe_op op_add (pv 3) (pv 4)) set_list))))))
      (pss_one (ps_ret (pv 2)))), ?_⟩
    refine ⟨by show 1 ≤ sizeLine; decide, fun z hz => ?_⟩
    have s1 := same_new (o := .lst [.int 0]) hz
    refine ⟨_, rfl, _, rfl, _, _, rfl, rfl, _, _, rfl, rfl, z, _, _, rfl, rfl, upd_same, by omega, by omega, by rw [sizeLine_eq, List.length_singleton]; omega, fun L hL => ?_⟩
    have e1 : (List.replicate ((a : Int) + (b : Int) - 1).toNat [V.int 0]).flatten = (List.replicate (a + b - 1) (0 : Int)).map V.int := by
      rw [show ((a : Int) + (b : Int) - 1).toNat = a + b - 1 by omega]
      generalize a + b - 1 = n
      induction n with
      | zero => rfl
      | succ n ih => rw [List.replicate_succ, List.flatten_cons, ih, List.replicate_succ]; rfl
    rw [e1]
    have s2 := s1.trans (same_new (o := .lst ((List.replicate (a + b - 1) (0 : Int)).map V.int)) hL)
    have L0 := s1.free hL
    let FB : Nat → List Int := fun i => ((List.range' 0 i).flatMap fun i => (List.range' 0 b).map fun j => i + j).foldl bump (List.replicate (a + b - 1) 0)
    have FBl : ∀ i, (FB i).length = a + b - 1 := fun i => by
      exact (foldl_bump_len _ _).trans (List.length_replicate ..)
    have h2 : (upd (upd H z (.lst [.int 0])) L (.lst ((List.replicate (a + b - 1) (0 : Int)).map V.int))) L = some (.lst ((FB 0).map V.int)) := upd_same
    revert s2 h2
    generalize upd (upd H z (.lst [.int 0])) L (.lst ((List.replicate (a + b - 1) (0 : Int)).map V.int)) = H2
    intro s2 h2
    refine ⟨_, rfl, _, rfl, by omega, by omega, for_range (n := ((a : Nat) : Int).toNat) (fun i σ H3 => ∃ y3 y4, σ = [some (.int (a : Nat)), some (.int (b : Nat)), some (.ref L), y3, y4] ∧ Same H H3 ∧ H3 L = some (.lst ((FB i).map V.int))) ⟨none, none, rfl, s2, h2⟩ ?_ ?_⟩
    · rintro i σ H3 hi ⟨y3, y4, rfl, s3, h3⟩
      have e0 : (0 : Int) + (i : Nat) = (i : Nat) := by omega
      rw [e0]
      let FJ : Nat → List Int := fun j => ((List.range' 0 j).map fun j => i + j).foldl bump (FB i)
      have FJl : ∀ j, (FJ j).length = a + b - 1 := fun j => by
        exact (foldl_bump_len _ _).trans (FBl i)
      refine ⟨_, rfl, _, rfl, by omega, by omega, for_range (n := ((b : Nat) : Int).toNat) (fun j σ H4 => ∃ y4, σ = [some (.int (a : Nat)), some (.int (b : Nat)), some (.ref L), some (.int (i : Nat)), y4] ∧ Same H H4 ∧ H4 L = some (.lst ((FJ j).map V.int))) ⟨y4, rfl, s3, h3⟩ ?_ ?_⟩
      · rintro j σ H4 hj ⟨y4, rfl, s4, h4⟩
        have e0 : (0 : Int) + (j : Nat) = (j : Nat) := by omega
        rw [e0]
        have hij : i + j < (FJ j).length := by rw [FJl]; omega
        have len4 : ((FJ j).map V.int).length = a + b - 1 := by rw [List.length_map, FJl]
        have at4 : atI ((FJ j).map V.int) ((i : Int) + (j : Int)) = some (V.int ((FJ j).getD (i + j) 0)) := by
          have := atI_nat (xs := (FJ j).map V.int) (j := i + j) (v := V.int ((FJ j).getD (i + j) 0)) (by rw [List.getElem?_map, List.getD_eq_getElem?_getD, List.getElem?_eq_getElem hij]; rfl)
          rwa [show ((i + j : Nat) : Int) = (i : Int) + (j : Int) by omega] at this
        have ix4 : ixN ((FJ j).map V.int).length ((i : Int) + (j : Int)) = some (i + j) := by
          unfold ixN
          rw [if_pos (by omega), if_pos (by rw [len4]; omega)]
          congr 1
        refine ⟨_, rfl, _, rfl, _, rfl, _, _, rfl, rfl, L, _, _, _, rfl, rfl, SqL.mk h4, at4, _, _, rfl, rfl, _, rfl, _, rfl, _, rfl, _, _, rfl, rfl, L, _, _, _, rfl, rfl, h4, ix4, ?_⟩
        refine ⟨_, rfl, s4.put L0, ?_⟩
        rw [upd_same]
        have e : FJ (j + 1) = bump (FJ j) (i + j) := by
          show List.foldl _ _ _ = _
          rw [List.range'_concat, List.map_append, List.foldl_append, show 0 + 1 * j = j by omega]
          rfl
        rw [e]
        unfold bump
        rw [List.map_set]
      · rintro σ H4 ⟨y4, rfl, s4, h4⟩
        refine ⟨_, _, rfl, s4, ?_⟩
        rw [h4]
        have e : FB (i + 1) = FJ b := by
          show List.foldl _ _ _ = List.foldl _ _ _
          rw [List.range'_concat, List.flatMap_append, List.foldl_append, show 0 + 1 * i = i by omega]
          simp
          rfl
        rw [e]
        rfl
    · rintro σ H3 ⟨y3, y4, rfl, s3, h3⟩
      exact ⟨_, rfl, q H3 L s3 L0 h3⟩
end
end G0

set_option pp.oneline true
namespace G0
open PySem PySem.Spec PyProof.Rows L2
theorem PairsAt.put {H : Hp} {us : List V} {ps : List (Nat × Nat)} {D : Addr} {xs : List V} {o : HO} (h : PairsAt H us ps) (hD : H D = some (.lst xs)) : PairsAt (upd H D o) us ps := ⟨h.1, fun i ab hi => by
  obtain ⟨t, h1, h2⟩ := h.2 i ab hi
  refine ⟨t, h1, ?_⟩
  rw [upd_ne (fun e => by rw [e, hD] at h2; cases h2)]
  exact h2⟩
def sideN (a k : Nat) : List (Nat × Nat) := ((List.range' 1 k).filter fun b => decide (a * b ≤ 24)).map fun b => (a, b)
theorem sideN_le (a k : Nat) : (sideN a k).length ≤ k := by
  unfold sideN
  rw [List.length_map]
  exact Nat.le_trans (List.length_filter_le _ _) (by rw [List.length_range']; exact Nat.le_refl _)
theorem sideN_succ (a k : Nat) : sideN a (k + 1) = sideN a k ++ if a * (1 + k) ≤ 24 then [(a, 1 + k)] else [] := by
  unfold sideN
  rw [List.range'_concat, List.filter_append, List.map_append, Nat.one_mul]
  congr 1
  by_cases c : a * (1 + k) ≤ 24
  · rw [if_pos c, List.filter_cons, if_pos (decide_eq_true c)]
    rfl
  · rw [if_neg c, List.filter_cons, if_neg (by rw [decide_eq_false c]; decide)]
    rfl
def sidesN (i : Nat) : List (Nat × Nat) := (List.range' 1 i).flatMap sidesOf
theorem sidesN_le : ∀ i, (sidesN i).length ≤ 10 * i
  | 0 => Nat.le_refl _
  | i + 1 => by
    unfold sidesN
    rw [List.range'_concat, List.flatMap_append, List.length_append]
    have h1 := sidesN_le i
    unfold sidesN at h1
    have h2 := sideN_le (1 + 1 * i) (10 - (1 + 1 * i))
    have : ([1 + 1 * i].flatMap sidesOf).length = (sideN (1 + 1 * i) (10 - (1 + 1 * i))).length := by simp [sidesOf, sideN]
    omega
section
variable {P : Program} {w : World} {K : PySem.W.Frag} {mg : Str → Option Value} {base : Heap}
def sp_sides : Sp := fun vs H Q _ => vs = [] ∧ ∀ H' L us, Same H H' → H L = none → H' L = some (.lst us) → PairsAt H' us sidesI → Q (.ref L) H'
theorem sc_sides : FnScope ["_law_found", "_law_one", "_law_other"] [] (defScope s_sides) := ⟨rfl, rfl, rfl, by decide +kernel, rfl, by decide +kernel, by decide +kernel⟩
theorem ok_sides {f : Addr} {fd : FuncData} (F : Fun K "_law_sides" "_law_sides" s_sides f fd) (B : Blt mg) : FnOk P w K mg base CX0 1 f fd [] sp_sides := by
  refine F.ok sc_sides (fun vs H Q E h => ?_) (fun cdv A outer s H vs Q E hr h => ?_)
  · obtain ⟨rfl, _⟩ := h
    rfl
  · obtain ⟨rfl, q⟩ := h
    refine ⟨_, pss_cons (ps_set (i := 0) sc_sides.nd rfl (Or.inl rfl) (pe_lst pa_nil))
      (pss_cons (ps_for PassesOwn.never rfl (pi_range2 (by rfl) B.range (pa_cons pe_int (pa_cons pe_int pa_nil))) (pg_name (i := 1) sc_sides.nd rfl (Or.inr rfl)) (pss_one (ps_expr (pe_bm PySem.F.plainAttrs_list PySem.F.slot_list_extend PySem.F.type_list_extend mt_extend (pv 0) (pa_cons (pe_lc (own := [("_law_other", 2)]) (g := gName 2) rfl sc_sides.nd (pi_range2 (by rfl) B.range (pa_cons pe_int (pa_cons (pe_op op_sub pe_int (pv 1)) pa_nil))) (blkOk_by (N := ["_law_found", "_law_one", "_law_other"]) (sc := defScope s_sides) (by decide +kernel)) (fun _ _ _ _ _ => pg_name (i := 2) sc_sides.nd rfl (Or.inl rfl)) (fun _ _ _ _ _ => pts_one (pt_cmpR op_le (pe_op op_mul (pv 1) (pv 2)) pe_int (nomark _))) (fun _ _ _ _ _ => (pe_tup (pa_cons (pv 1) (pa_cons (pv 2) pa_nil))))) pa_nil)))))
      (pss_one (ps_ret (pv 0)))), ?_⟩
    refine ⟨by show 0 ≤ sizeLine; decide, fun L hL => ?_⟩
    have s1 := same_new (o := .lst []) hL
    refine ⟨1, 10, rfl, ⟨by decide, by decide, by decide, by decide⟩, for_range (lo := 1) (n := 9) (fun i σ H2 => ∃ y2 y3 us, σ = [some (.ref L), y2, y3] ∧ Same H H2 ∧ H2 L = some (.lst us) ∧ PairsAt H2 us (sidesN i)) ⟨none, none, [], rfl, s1, upd_same, rfl, fun i ab hi => by cases hi⟩ ?_ ?_⟩
    · rintro i σ H2 hi ⟨y2, y3, us, rfl, s2, h2, p2⟩
      have e1 : (1 : Int) + (i : Nat) = ((1 + i : Nat) : Int) := by omega
      rw [e1]
      refine ⟨_, rfl, .inl ⟨rfl, _, SqL.mk h2⟩, _, rfl, _, _, rfl, rfl, 1, _, rfl, ⟨by decide, by decide, by omega, by omega⟩, fun D hD => lc_range (lo := 1) (n := (11 - ((1 + i : Nat) : Int) - 1).toNat) (fun k H5 => Same H2 H5 ∧ ∃ vs, H5 D = some (.lst vs) ∧ PairsAt H5 vs (sideN (1 + i) k)) ⟨same_new hD, [], upd_same, rfl, fun i ab hi => by cases hi⟩ ?_ ?_⟩
      · rintro k H5 hk ⟨s5, vs, h5, p5⟩
        have e2 : (1 : Int) + (k : Nat) = ((1 + k : Nat) : Int) := by omega
        have hm : ((1 + i : Nat) : Int) * ((1 + k : Nat) : Int) = (((1 + i) * (1 + k) : Nat) : Int) := (Int.natCast_mul _ _).symm
        rw [e2]
        refine ⟨rfl, _, rfl, _, rfl, _, _, rfl, rfl, .inl ⟨by omega, by omega⟩, _, _, rfl, rfl, _, rfl, ?_⟩
        rw [hm]
        have vl := p5.1
        have sl := sideN_le (1 + i) k
        by_cases c : (1 + i) * (1 + k) ≤ 24
        · rw [decide_eq_true (show ((((1 + i) * (1 + k) : Nat)) : Int) ≤ 24 by omega)]
          refine iteT ⟨_, rfl, _, rfl, by show 2 ≤ sizeLine; decide, fun t ht => ?_⟩
          have s6 := same_new (o := .tup [.int ((1 + i : Nat) : Int), .int ((1 + k : Nat) : Int)]) ht
          refine ⟨vs, s6 _ _ h5, by rw [sizeLine_eq]; omega, (s5.trans s6).put hD, _, upd_same, ?_⟩
          rw [sideN_succ, if_pos c]
          exact ((p5.same s6).app (PairsAt.one (ab := (1 + i, 1 + k)) upd_same)).put (s6 _ _ h5)
        · rw [decide_eq_false (show ¬ ((((1 + i) * (1 + k) : Nat)) : Int) ≤ 24 by omega)]
          refine iteF ⟨s5, vs, h5, ?_⟩
          rw [sideN_succ, if_neg c, List.append_nil]
          exact p5
      · rintro H5 ⟨s5, vs, h5, p5⟩
        have vl := p5.1
        have sl := sideN_le (1 + i) ((11 - ((1 + i : Nat) : Int) - 1).toNat)
        have ul := p2.1
        have tl := sidesN_le i
        refine ⟨L, D, us, vs, rfl, rfl, s5 _ _ h2, h5, by rw [sizeLine_eq]; omega, _, _, _, rfl, (s2.trans s5).put hL, upd_same, ?_⟩
        have e : sidesN (i + 1) = sidesN i ++ sideN (1 + i) ((11 - ((1 + i : Nat) : Int) - 1).toNat) := by
          unfold sidesN
          rw [List.range'_concat, List.flatMap_append, Nat.one_mul, show (11 - ((1 + i : Nat) : Int) - 1).toNat = 10 - (1 + i) by omega]
          simp [sidesOf, sideN]
        rw [e]
        exact ((p2.same s5).app p5).put (s5 _ _ h2)
    · rintro σ H2 ⟨y2, y3, us, rfl, s2, h2, p2⟩
      exact ⟨_, rfl, q H2 L us s2 hL h2 p2⟩
end
end G0

set_option pp.oneline true
namespace G0
open PySem PySem.Spec PyProof.Rows L2
abbrev s_rowr : Stmt := top 48
theorem ixTK {X : Cx} {K : PySem.W.Frag} (h : X.K = K) : IxR X (rIxT K) := by
  subst h
  exact ix_tup
theorem reprK {X : Cx} {K : PySem.W.Frag} (h : X.K = K) (gd : X.A.guards = some []) (hu : X.A.units + 64 < cLine) : CallR X (.builtin "repr") (rReprF K) := by
  subst h
  exact call_repr gd hu
theorem eqDK {X : Cx} {K : PySem.W.Frag} (h : X.K = K) (hu : X.A.units + 64 < cLine) : OpR X (compareOp .Eq) (rEqD K) := by
  subst h
  exact op_eqD hu
theorem fine_two (i j : Bool) : Fine (.list [.bool i, .bool j]) := .lst (dep := 0) (.cons (s1 := 5) rfl rfl (Nat.le_refl _) (Nat.le_refl _) (.cons (s1 := 5) rfl rfl (Nat.le_refl _) (Nat.le_refl _) (.nil (sz := 0)))) (by decide) (by decide)
/-- lists of small ints -/
structure Few (ns : List Int) : Prop where
  len : ns.length ≤ 100
  sm : ∀ n ∈ ns, n.natAbs < 1000
theorem Few.dp {K : PySem.W.Frag} {D : Hp} {a : Addr} {ns : List Int} (c : Few ns) (h : Sq K D a (ns.map V.int)) : ∃ d, Fine d ∧ ∀ H, Same D H → Dp K H (.ref a) d := by
  have l := c.len
  have sm : Sm ns := fun n hn => Nat.lt_trans (c.sm n hn) (by decide +kernel)
  rcases h with h | h
  · exact ⟨dLst ns, fine_lst sm (by omega), fun H e => dp_lst (e.seq h)⟩
  · exact ⟨dTup ns, fine_tup sm (by omega), fun H e => dp_tup (same_t e h)⟩
theorem Wd.weak {p : Addr} {D D' H : Hp} (w : Wd p D' H) (e : Same D D') : Wd p D H := ⟨e.trans w.s, e.free w.n, w.pot⟩
theorem filter_take {α : Type} (f : α → Bool) {xs : List α} {k : Nat} {x : α} (h : xs[k]? = some x) : (xs.take (k + 1)).filter f = (xs.take k).filter f ++ if f x = true then [x] else [] := by
  rw [List.take_add_one, h, List.filter_append]
  congr 1
  show List.filter f [x] = _
  rw [List.filter_cons]
  rfl
theorem has_max : ∀ {ns : List Int}, ns ≠ [] → ∃ m ∈ ns, ∀ y ∈ ns, y ≤ m
  | [], h => absurd rfl h
  | [n], _ => ⟨n, by simp, fun y hy => by rw [List.mem_singleton.mp hy]; exact Int.le_refl _⟩
  | n :: k :: ns, _ => by
    obtain ⟨m, mm, mx⟩ := has_max (ns := k :: ns) (by simp)
    by_cases c : n ≤ m
    · exact ⟨m, List.mem_cons_of_mem _ mm, fun y hy => (List.mem_cons.mp hy).elim (fun e => by rw [e]; exact c) (mx y)⟩
    · refine ⟨n, by simp, fun y hy => (List.mem_cons.mp hy).elim (fun e => by rw [e]; exact Int.le_refl _) fun h => ?_⟩
      have := mx y h
      omega
section
variable {P : Program} {w : World} {K : PySem.W.Frag} {mg : Str → Option Value} {base : Heap}
def sp_rowr : Sp := fun vs H Q _ => ∃ (p l : Addr) (D : Hp) (ns : List Int), vs = [.ref p, .ref l] ∧ Wd p D H ∧ D l = some (.lst (ns.map V.int)) ∧ ns ≠ [] ∧ RowI ns ∧ ∀ H', Wd p D H' → Q (.bl true) H'
theorem sc_rowr : FnScope ["_law_pot_here", "_law_numbers", "_law_given", "_law_kept", "_law_back", "_law_number", "_law_told", "_law_same", "_law_sides_here", "_law_pair"] ["_law_pot_here", "_law_numbers"] (defScope s_rowr) := ⟨rfl, rfl, rfl, by decide +kernel, rfl, by decide +kernel, by decide +kernel⟩
theorem ok_rowr {f f1 f2 f3 f4 f5 f6 : Addr} {fd fd1 fd2 fd3 fd4 fd5 fd6 : FuncData} (F : Fun K "_law_row_right" "_law_row_right" s_rowr f fd) (B : Blt mg)
    (Dpass : Df K mg "_law_passed" s_passed ["_law_pot_here", "_law_numbers"] f1 fd1) (Gpass : FnOk P w K mg base CX0 2 f1 fd1 ["_law_pot_here", "_law_numbers"] (sp_passed K))
    (Dmi : Df K mg "mirrored" s_mirrored ["row"] f2 fd2) (Gmi : FnOk P w K mg base CX0 6 f2 fd2 ["row"] (sp_mirr K)) (Kmi : KB fd2 ["row"] ["row"] 0)
    (Dim : Df K mg "is_mirrored" s_is_mirrored ["row"] f3 fd3) (Gim : FnOk P w K mg base CX0 7 f3 fd3 ["row"] (sp_ismirr K)) (Kim : KB fd3 ["row"] ["row"] 0)
    (Dbo : Df K mg "box_of" s_box_of ["row"] f4 fd4) (Gbo : FnOk P w K mg base CX0 8 f4 fd4 ["row"] (sp_boxof K))
    (Dsd : Df K mg "_law_sides" s_sides [] f5 fd5) (Gsd : FnOk P w K mg base CX0 1 f5 fd5 [] sp_sides)
    (Dlb : Df K mg "_law_box" s_lbox ["_law_one", "_law_other"] f6 fd6) (Glb : FnOk P w K mg base CX0 1 f6 fd6 ["_law_one", "_law_other"] sp_lbox) :
    FnG P w K mg base 9 f fd ["_law_pot_here", "_law_numbers"] sp_rowr := by
  refine F.okG sc_rowr (fun vs H Q E h => ?_) (fun cdv A outer s H vs Q E gd hr h => ?_)
  · obtain ⟨p, l, D, ns, rfl, _⟩ := h
    rfl
  · obtain ⟨p, l, D, ns, rfl, wd, hl, ne, r, q⟩ := h
    have hu := hr.units
    have r1 : Room 1 _ := hr.mono (by decide)
    have r2 : Room 2 _ := hr.mono (by decide)
    have r6 : Room 6 _ := hr.mono (by decide)
    have r7 : Room 7 _ := hr.mono (by decide)
    have r8 : Room 8 _ := hr.mono (by decide)
    refine ⟨_, pss_cons (ps_set (i := 2) sc_rowr.nd rfl (Or.inl rfl) (pdf Dpass Gpass r2 (pa_cons (pv 0) (pa_cons (pv 1) pa_nil))))
      (pss_cons (ps_par (i := 3) (j := 4) rfl sc_rowr.nd rfl rfl (by decide) rfl rfl (pa_cons (pe_callB (call_repr gd hu) (by rfl) B.repr boot_repr (pa_cons (pv 2) pa_nil)) (pa_cons (pe_lst pa_nil) pa_nil)) (by rfl))
      (pss_cons (ps_for PassesOwn.never rfl (pi_list (pv 1)) (pg_name (i := 5) sc_rowr.nd rfl (Or.inl rfl)) (pss_one (ps_set (i := 4) sc_rowr.nd rfl (Or.inl rfl) (pe_op op_cat (pe_lst (pa_cons (pv 5) pa_nil)) (pv 4)))))
      (pss_cons (ps_set (i := 6) sc_rowr.nd rfl (Or.inl rfl) (pdf Dmi Gmi r6 (pa_cons (pv 2) pa_nil)))
      (pss_cons (ps_if (PW.pt (pw_or (pt_not (pt_val (pe_callB (isiK (K := K) rfl) (by rfl) B.isinstance boot_isi (pa_cons (pv 6) (pa_cons (pty B.list boot_tlist) pa_nil))))) (pw_or (pt_cmpR (op_neD hu) (pv 6) (pv 4) (nomark _)) (pw_or1 (pt_cmpR (op_neD hu) (pe_callN (E := E0) Gmi r6 (by rfl) Dmi.g Dmi.F.kp Kmi (pk_cons (pv 2) pk_nil)) (pv 4) (nomark _)))))) (pss_one (ps_ret pe_bl)) pss_nil)
      (pss_cons (ps_set (i := 7) sc_rowr.nd rfl (Or.inl rfl) (pe_cmpR (op_eqD hu) (pv 4) (pv 1) (nomark _)))
      (pss_cons (ps_if (pt_cmpR op_ne (pe_callB (call_repr gd hu) (by rfl) B.repr boot_repr (pa_cons (pe_lst (pa_cons (pdf Dim Gim r7 (pa_cons (pv 2) pa_nil)) (pa_cons (pe_callN (E := E0) Gim r7 (by rfl) Dim.g Dim.F.kp Kim (pk_cons (pv 2) pk_nil)) pa_nil))) pa_nil)) (pe_callB (call_repr gd hu) (by rfl) B.repr boot_repr (pa_cons (pe_lst (pa_cons (pv 7) (pa_cons (pv 7) pa_nil))) pa_nil)) (nomark _)) (pss_one (ps_ret pe_bl)) pss_nil)
      (pss_cons (ps_setLc (i := 8) (own := [("_law_pair", 9)]) (g := gName 9) rfl sc_rowr.nd rfl rfl (sw_true rfl rfl rfl (by decide +kernel)) (pi_list (pe_call0 (E := E0) Gsd r1 (by rfl) Dsd.g Dsd.F.kp Dsd.b .nil pass0)) (blkOk_by (N := ["_law_pot_here", "_law_numbers", "_law_given", "_law_kept", "_law_back", "_law_number", "_law_told", "_law_same", "_law_sides_here", "_law_pair"]) (sc := defScope s_rowr) (by decide +kernel)) (fun _ _ _ _ _ => pg_name (i := 9) sc_rowr.nd rfl (Or.inl rfl)) (fun _ _ _ _ _ => pts_one (PW.pt (pw_and (pt_cmpR op_le (pe_ix (ixTK (K := K) rfl) (pv 9) pe_int (fun _ _ => rfl)) (pe_ix (ixTK (K := K) rfl) (pv 9) pe_int (fun _ _ => rfl)) (nomark _)) (pw_and1 (pt_cmpR (eqDK (K := K) rfl hu) (pdf Dlb Glb r1 (pa_cons (pe_ix (ixTK (K := K) rfl) (pv 9) pe_int (fun _ _ => rfl)) (pa_cons (pe_ix (ixTK (K := K) rfl) (pv 9) pe_int (fun _ _ => rfl)) pa_nil))) (pv 1) (nomark _)))))) (fun _ _ _ _ _ => (pv 9)))
      (pss_cons (ps_if (PW.pt (pw_or (pt_cmpR op_ne (pe_callB call_len_seq (by rfl) B.len PySem.boot_len (pa_cons (pv 8) pa_nil)) (pe_ifExp (pt_val (pv 7)) pe_int pe_int) (nomark _)) (pw_or1 (pt_cmpR (OpR.or op_ne (op_neD hu)) (pdf Dbo Gbo r8 (pa_cons (pv 2) pa_nil)) (pe_ifExp (pt_val (pv 7)) (pe_ix ix_list (pv 8) pe_int (fun _ _ => rfl)) pe_non) (nomark _))))) (pss_one (ps_ret pe_bl)) pss_nil)
      (pss_cons (ps_expr (pe_bm PySem.F.plainAttrs_list PySem.F.slot_list_append PySem.F.type_list_append mt_append (pv 6) (pa_cons pe_non pa_nil)))
      (pss_one (ps_ret (pe_and (pe_cmpR (op_eqD hu) (pdf Dmi Gmi r6 (pa_cons (pv 2) pa_nil)) (pv 4) (nomark _)) (pe_one (pe_cmpR op_eq (pe_callB (call_repr gd hu) (by rfl) B.repr boot_repr (pa_cons (pv 2) pa_nil)) (pv 3) (nomark _))))))))))))))), ?_⟩
    have len : (ns.map V.int).length = ns.length := List.length_map ..
    have l9 := r.len
    have few : Few ns := ⟨by omega, fun n hn => by have := row_le r n hn; have := r.pos n hn; omega⟩
    refine ⟨_, rfl, _, rfl, p, l, D, _, rfl, wd, SqL.mk hl, fun v D1 H1 sD w1 hv => ?_⟩
    obtain ⟨g, rfl, hg, g0⟩ := hv
    have hl1 := sD _ _ hl
    obtain ⟨d, fd', dp⟩ := few.dp hg
    refine ⟨_, rfl, g, d, rfl, dp _ w1.s, fd', by show 0 ≤ sizeLine; decide, fun L0 hL0 => ?_⟩
    have hg1 := hg.same w1.s
    have hlH := w1.s _ _ hl1
    have sI := same_new (o := .lst []) hL0
    have wI := w1.pure sI
    refine ⟨_, _, rfl, _, rfl, l, rfl, ⟨_, SqL.mk (sI _ _ hlH)⟩, for_list (xs := ns.map V.int) (fun i σ H2 => ∃ y5 Lb, σ = [some (.ref p), some (.ref l), some (.ref g), some (.str d.shown), some (.ref Lb), y5, none, none, none, none] ∧ Same H1 H2 ∧ H2 Lb = some (.lst ((ns.take i).reverse.map V.int))) ⟨none, L0, rfl, sI, upd_same⟩ (fun i σ H2 _ h => ?_) (fun i x σ H2 hx h => ?_) (fun σ H2 h => ?_)⟩
    · obtain ⟨y5, Lb, rfl, s2, h2⟩ := h
      exact SqL.mk (s2 _ _ hlH)
    · obtain ⟨y5, Lb, rfl, s2, h2⟩ := h
      obtain ⟨n, hn, rfl⟩ : ∃ n, ns[i]? = some n ∧ x = V.int n := by
        rw [List.getElem?_map] at hx
        cases e : ns[i]? with
        | none => rw [e] at hx; cases hx
        | some n => rw [e] at hx; cases hx; exact ⟨n, rfl, rfl⟩
      refine ⟨_, rfl, by show 1 ≤ sizeLine; decide, fun a1 ha1 => ?_⟩
      have s3 := same_new (o := .lst [.int n]) ha1
      refine ⟨_, rfl, a1, Lb, _, _, rfl, rfl, upd_same, s3 _ _ h2, by rw [List.length_singleton, List.length_map, List.length_reverse, List.length_take, sizeLine_eq]; omega, fun L3 hL3 => ?_⟩
      refine ⟨_, L3, rfl, (s2.trans s3).trans (same_new hL3), ?_⟩
      rw [upd_same, List.take_add_one, hn]
      simp
    obtain ⟨y5, Lb, rfl, s2, hb⟩ := h
    rw [len, List.take_length] at hb
    have w2 := w1.pure s2
    have hg2 := hg.same w2.s
    have hl2 := s2 _ _ hlH
    have dp2 : ∀ H, Same H2 H → Dp K H (.ref g) d := fun H e => dp H (w2.s.trans e)
    clear dp hg hg1 hlH sI wI s2 hL0
    obtain ⟨bs, ebs⟩ : ∃ bs, ns.reverse = bs := ⟨_, rfl⟩
    rw [ebs] at hb
    have ezz : ∀ xs : List Int, PyData.eqv (dLst xs) (dLst xs) = true := fun xs => by rw [eqv_lst]; simp
    have nzz : ∀ xs : List Int, (!PyData.eqv (dLst xs) (dLst xs)) = false := fun xs => by rw [ezz]; rfl
    have nvv : ∀ x : V, (!decide (x = x)) = false := fun x => by simp
    -- mirrored twice
    refine ⟨_, rfl, g, ns, rfl, hg2, ne, r, fun H3 T s3 hT0 hT => ?_⟩
    rw [ebs] at hT
    refine ⟨_, rfl, _, _, _, _, true, rfl, .ty "list", ty_l (SqL.mk hT), kit_ll, true, rfl, iteF ?_⟩
    refine ⟨_, rfl, _, rfl, dLst bs, dLst bs, dp_lst (SqL.mk hT), dp_lst (SqL.mk (s3 _ _ hb)), shaped_lst _, shaped_lst _, _, rfl, ?_⟩
    rw [nzz]
    refine iteF ⟨_, rfl, rfl, g, ns, rfl, hg2.same s3, ne, r, fun H4 T2 s4 _ hT2 => ?_⟩
    rw [ebs] at hT2
    have s24 := s3.trans s4
    refine ⟨_, rfl, dLst bs, dLst bs, dp_lst (SqL.mk hT2), dp_lst (SqL.mk (s24 _ _ hb)), shaped_lst _, shaped_lst _, _, rfl, ?_⟩
    rw [nzz]
    refine iteF ?_
    dsimp only [tNext]
    -- same
    refine ⟨_, rfl, _, rfl, dLst bs, dLst ns, dp_lst (SqL.mk (s24 _ _ hb)), dp_lst (SqL.mk (s24 _ _ hl2)), shaped_lst _, shaped_lst _, ?_⟩
    rw [eqv_lst]
    obtain ⟨sm, esm⟩ : ∃ sm, decide (bs = ns) = sm := ⟨_, rfl⟩
    rw [esm]
    have esm2 : decide (ns.reverse = ns) = sm := by rw [ebs]; exact esm
    refine ⟨_, rfl, g, ns, rfl, hg2.same s24, ne, r, fun H5 s5 => ?_⟩
    rw [esm2]
    refine ⟨_, rfl, rfl, g, ns, rfl, hg2.same (s24.trans s5), ne, r, fun H6 s6 => ?_⟩
    rw [esm2]
    refine ⟨by show 2 ≤ sizeLine; decide, fun a7 ha7 => ?_⟩
    have s7 := same_new (o := .lst [.bl sm, .bl sm]) ha7
    refine ⟨a7, .list [.bool sm, .bool sm], rfl, .lst (SqL.mk upd_same) (.cons (.bl _) (.cons (.bl _) .nil)), fine_two _ _, ?_⟩
    refine ⟨_, rfl, _, rfl, by show 2 ≤ sizeLine; decide, fun a8 ha8 => ?_⟩
    have s8 := same_new (o := .lst [.bl sm, .bl sm]) ha8
    refine ⟨a8, .list [.bool sm, .bool sm], rfl, .lst (SqL.mk upd_same) (.cons (.bl _) (.cons (.bl _) .nil)), fine_two _ _, rfl, _, rfl, ?_⟩
    rw [nvv]
    refine iteF ?_
    dsimp only [tNext]
    have s28 := (((s24.trans s5).trans s6).trans s7).trans s8
    have hT8 := ((((s4.trans s5).trans s6).trans s7).trans s8) _ _ hT
    revert s28 hT8
    generalize upd (upd H6 a7 (.lst [.bl sm, .bl sm])) a8 (.lst [.bl sm, .bl sm]) = H8
    intro s28 hT8
    have hl8 := s28 _ _ hl2
    -- the sides that make it
    refine ⟨rfl, fun H9 LS us s9 hLS0 hLS ps => ⟨LS, rfl, ⟨_, SqL.mk hLS⟩, fun D9 hD9 => lc_list (K := K) (a := LS) (xs := us) (fun k H5 => Same H9 H5 ∧ ∃ vs, H5 D9 = some (.lst vs) ∧ PairsAt H5 vs ((sidesI.take k).filter fun ab => decide (ab.1 ≤ ab.2) && decide (boxI ab.1 ab.2 = ns))) ⟨same_new hD9, [], upd_same, rfl, fun i ab hi => by cases hi⟩ (fun k H5 _ h => SqL.mk (h.1 _ _ hLS)) (fun k x H5 hx h => ?_) (fun H5 h => ?_)⟩⟩
    · obtain ⟨s5', vs, h5, p5⟩ := h
      have hk : k < sidesI.length := by
        have := (List.getElem?_eq_some_iff.mp hx).1
        rw [ps.1] at this
        exact this
      have hab : sidesI[k]? = some sidesI[k] := List.getElem?_eq_getElem hk
      have sP := side_ok (a := sidesI[k].1) (b := sidesI[k].2) (List.getElem_mem hk)
      obtain ⟨t, ht, htu⟩ := ps.2 k _ hab
      rw [hx] at ht
      cases ht
      have ft := filter_take (fun ab => decide (ab.1 ≤ ab.2) && decide (boxI ab.1 ab.2 = ns)) hab
      revert sP ft htu hab
      generalize sidesI[k] = ab
      obtain ⟨a, b⟩ := ab
      intro hab sP htu ft
      have a1 := sP.a1
      have b1 := sP.b1
      have s10 := sP.s10
      have pl := p5.1
      have fl : ((sidesI.take k).filter fun ab => decide (ab.1 ≤ ab.2) && decide (boxI ab.1 ab.2 = ns)).length ≤ sidesI.length := Nat.le_trans (List.length_filter_le _ _) (List.length_take_le' ..)
      have sl : sidesI.length ≤ 90 := by decide +kernel
      have htu5 := s5' _ _ htu
      refine ⟨rfl, _, rfl, t, _, _, _, rfl, rfl, SqT.mk htu5, rfl, _, rfl, t, _, _, _, rfl, rfl, SqT.mk htu5, rfl, _, _, rfl, rfl, _, rfl, ?_⟩
      by_cases c1 : a ≤ b
      · rw [decide_eq_true (show ((a : Nat) : Int) ≤ ((b : Nat) : Int) by omega)]
        refine iteT ⟨_, rfl, t, _, _, _, rfl, rfl, SqT.mk htu5, rfl, _, rfl, t, _, _, _, rfl, rfl, SqT.mk htu5, rfl, a, b, rfl, a1, b1, by omega, by omega, fun H6 Lx s6 _ h6 => ?_⟩
        refine ⟨_, rfl, dLst _, dLst ns, dp_lst (SqL.mk h6), dp_lst (SqL.mk (s6 _ _ (s5' _ _ (s9 _ _ hl8)))), shaped_lst _, shaped_lst _, _, rfl, ?_⟩
        rw [eqv_lst]
        by_cases c2 : boxI a b = ns
        · rw [decide_eq_true c2]
          rw [if_pos (by simp [c1, c2])] at ft
          refine iteT ⟨_, rfl, vs, s6 _ _ h5, by rw [sizeLine_eq]; omega, (s5'.trans s6).put hD9, _, upd_same, ?_⟩
          rw [ft]
          exact ((p5.same s6).app (PairsAt.one (ab := (a, b)) (s6 _ _ htu5))).put (s6 _ _ h5)
        · rw [decide_eq_false c2]
          rw [if_neg (by simp [c2]), List.append_nil] at ft
          refine iteF ⟨s5'.trans s6, vs, s6 _ _ h5, ?_⟩
          rw [ft]
          exact p5.same s6
      · rw [decide_eq_false (show ¬ ((a : Nat) : Int) ≤ ((b : Nat) : Int) by omega)]
        rw [if_neg (by simp [c1]), List.append_nil] at ft
        refine iteF (iteF ⟨s5', vs, h5, ?_⟩)
        rw [ft]
        exact p5
    obtain ⟨s5', vs, h5, p5⟩ := h
    rw [ps.1, List.take_length] at p5
    have s25 := (s28.trans s9).trans s5'
    have hT5 := s5' _ _ (s9 _ _ hT8)
    have p5 : PairsAt H5 vs (hitsOf ns) := p5
    obtain ⟨m, mm, mx⟩ := has_max ne
    obtain ⟨hit1, hit0⟩ := row_hits r mm mx
    have m0 := r.pos m mm
    have ml : m ≤ (ns.length : Int) := row_le r m mm
    have hD5 := h5
    clear hD9 hLS hLS0 ps hT8 hl8 s9 s5'
    unfold gName
    dsimp only
    refine seq_join (fun σ H' => σ = [some (.ref p), some (.ref l), some (.ref g), some (.str d.shown), some (.ref Lb), y5, some (.ref T), some (.bl sm), some (.ref D9), none] ∧ Same H5 H') ?_ ?_
    · intro N hN
      refine ⟨_, rfl, D9, vs, rfl, .inl (SqL.mk h5), _, rfl, _, rfl, ?_⟩
      cases sm with
      | true =>
        have c : ns.reverse = ns := of_decide_eq_true esm2
        rw [hit1 c] at p5
        obtain ⟨t, ht, htu⟩ := p5.2 0 _ rfl
        have vl : vs.length = 1 := p5.1
        refine iteT ⟨rfl, _, rfl, ?_⟩
        rw [vl, show (!decide (V.int ((1 : Nat) : Int) = V.int 1)) = false by simp]
        refine iteF ⟨_, rfl, g, ns, rfl, hg2.same s25, ne, r, fun _ m' mm' mx' H6 t6 s6 _ h6 => ?_, fun no => absurd c no⟩
        have em : m' = m := by
          have := mx' m mm
          have := mx m' mm'
          omega
        rw [em] at h6
        refine ⟨_, rfl, _, rfl, iteT ⟨_, rfl, D9, vs, _, _, rfl, rfl, SqL.mk (s6 _ _ h5), atI_nat (j := 0) ht, .inr ⟨dTup [m, (ns.length : Int) + 1 - m], dTup [m, (ns.length : Int) + 1 - m], dp_tup (SqT.mk h6), dp_tup (SqT.mk ?_), shaped_tup _, shaped_tup _, _, rfl, ?_⟩⟩⟩
        · rw [s6 _ _ htu]
          show some (HO.tup [V.int ((m.toNat : Nat) : Int), V.int ((ns.length + 1 - m.toNat : Nat) : Int)]) = some (HO.tup [V.int m, V.int ((ns.length : Int) + 1 - m)])
          rw [show ((m.toNat : Nat) : Int) = m by omega, show ((ns.length + 1 - m.toNat : Nat) : Int) = (ns.length : Int) + 1 - m by omega]
        · rw [eqv_tup, decide_eq_true rfl]
          exact iteF (hN _ _ ⟨rfl, s6⟩)
      | false =>
        have c : ns.reverse ≠ ns := of_decide_eq_false esm2
        rw [hit0 c] at p5
        have vl : vs.length = 0 := p5.1
        refine iteF ⟨rfl, _, rfl, ?_⟩
        rw [vl, show (!decide (V.int ((0 : Nat) : Int) = V.int 0)) = false by simp]
        refine iteF ⟨_, rfl, g, ns, rfl, hg2.same s25, ne, r, fun yes => absurd yes c, fun _ H6 s6 => ?_⟩
        refine ⟨_, rfl, _, rfl, iteF (.inl ⟨rfl, _, rfl, ?_⟩)⟩
        rw [nvv]
        exact iteF (hN _ _ ⟨rfl, s6⟩)
    rintro σ H6 ⟨rfl, s6⟩
    have s26 := s25.trans s6
    have hT6 := s6 _ _ hT5
    refine ⟨_, rfl, .inl ⟨rfl, _, SqL.mk hT6⟩, T, _, _, rfl, rfl, hT6, by rw [List.length_map, ← ebs, List.length_reverse, sizeLine_eq]; omega, ?_⟩
    have s27 : Same H2 (upd H6 T (.lst (bs.map V.int ++ [.non]))) := s26.put hT0
    revert s27
    generalize upd H6 T (.lst (bs.map V.int ++ [.non])) = H7
    intro s27
    refine ⟨_, rfl, g, ns, rfl, hg2.same s27, ne, r, fun H8' T8 s8' _ h8 => ?_⟩
    rw [ebs] at h8
    have s28' := s27.trans s8'
    refine ⟨_, rfl, dLst bs, dLst bs, dp_lst (SqL.mk h8), dp_lst (SqL.mk (s28' _ _ hb)), shaped_lst _, shaped_lst _, _, rfl, ?_⟩
    rw [ezz]
    refine iteT ⟨_, rfl, g, d, rfl, dp2 _ s28', fd', _, rfl, rfl, ?_⟩
    dsimp only
    rw [decide_eq_true rfl]
    exact q _ ((w2.pure s28').weak sD)
end
end G0

set_option pp.oneline true
namespace G0
open PySem PySem.Spec PyProof.Rows L2
abbrev s_stair : Stmt := top 37
theorem it_over {J : It} {m : Nat} {G : Hp → Prop} {Y : Nat → Hp → V → Hp → Prop} (wk : Walk J m G Y) {Hs : Hp} {Qd : Hp → Prop} {body : V → Hp → (Hp → Prop) → Prop} (S : Nat → Hp → Prop) (first : S 0 Hs) (stays : ∀ k H, k ≤ m → S k H → G H)
    (turn : ∀ k x H Hx, k < m → S k H → Y k H x Hx → body x Hx (S (k + 1))) (last : ∀ H, S m H → Qd H) :
    ∃ Wt : Nat → Nat → Hp → Prop, (∃ c, Wt 0 c Hs) ∧ ∀ k c H, Wt k c H → (J.stop k H ∧ Qd H) ∨ (J.go k H ∧ ∃ Nx : Hp → Prop, (∀ Hn, Nx Hn → ∃ c', c' < c ∧ Wt (k + 1) c' Hn) ∧ ∀ x Hx, J.yld k H x Hx → body x Hx Nx) := by
  refine ⟨fun k c H => (c = m - k ∧ k ≤ m) ∧ S k H, ⟨m, ⟨by simp, Nat.zero_le _⟩, first⟩, ?_⟩
  rintro k c H ⟨⟨rfl, le⟩, s⟩
  have g := stays k H le s
  rcases Nat.lt_or_ge k m with lt | ge
  · exact .inr ⟨wk.goes k H lt g, S (k + 1), fun Hn sn => ⟨m - (k + 1), by omega, ⟨rfl, lt⟩, sn⟩, fun x Hx yl => turn k x H Hx lt s (wk.yields k H x Hx lt g yl)⟩
  · obtain rfl : k = m := by omega
    exact .inl ⟨wk.stops H g, last H s⟩
def TupsAt (H : Hp) (us : List V) (ts : List (List Int)) : Prop := us.length = ts.length ∧ ∀ (i : Nat) (t : List Int), ts[i]? = some t → ∃ q, us[i]? = some (.ref q) ∧ H q = some (.tup (t.map V.int))
theorem TupsAt.same {H H' : Hp} {us : List V} {ts : List (List Int)} (h : TupsAt H us ts) (e : Same H H') : TupsAt H' us ts := ⟨h.1, fun i t hi => by
  obtain ⟨q, h1, h2⟩ := h.2 i t hi
  exact ⟨q, h1, e _ _ h2⟩⟩
theorem TupsAt.snoc {H : Hp} {us : List V} {ts : List (List Int)} {q : Addr} {t : List Int} (h : TupsAt H us ts) (g : H q = some (.tup (t.map V.int))) : TupsAt H (us ++ [.ref q]) (ts ++ [t]) := by
  refine ⟨by rw [List.length_append, List.length_append, h.1]; rfl, fun i x hi => ?_⟩
  by_cases c : i < ts.length
  · rw [List.getElem?_append_left c] at hi
    rw [List.getElem?_append_left (by rw [h.1]; exact c)]
    exact h.2 i x hi
  · rw [List.getElem?_append_right (by omega)] at hi
    rw [List.getElem?_append_right (by rw [h.1]; omega), h.1]
    revert hi
    generalize i - ts.length = j
    intro hi
    cases j with
    | zero => cases hi; exact ⟨q, rfl, g⟩
    | succ j => cases hi
theorem TupsAt.put {H : Hp} {us : List V} {ts : List (List Int)} {D : Addr} {xs : List V} {o : HO} (h : TupsAt H us ts) (hD : H D = some (.lst xs)) : TupsAt (upd H D o) us ts := ⟨h.1, fun i t hi => by
  obtain ⟨q, h1, h2⟩ := h.2 i t hi
  refine ⟨q, h1, ?_⟩
  rw [upd_ne (fun e => by rw [e, hD] at h2; cases h2)]
  exact h2⟩
def ptsAt (i k : Nat) : List (List Int) := (List.range' 0 k).map fun (j : Nat) => [(i : Int) - j, (j : Int), 1]
def ptsN (ns : List Int) (k : Nat) : List (List Int) := (List.range' 0 k).flatMap fun i => ptsAt i (ns.getD i 0).toNat
theorem ptsN_succ (ns : List Int) (k : Nat) : ptsN ns (k + 1) = ptsN ns k ++ ptsAt k (ns.getD k 0).toNat := by
  unfold ptsN
  rw [List.range'_concat, List.flatMap_append, show 0 + 1 * k = k by omega]
  simp
theorem ptsAt_succ (i k : Nat) : ptsAt i (k + 1) = ptsAt i k ++ [[(i : Int) - k, (k : Int), 1]] := by
  unfold ptsAt
  rw [List.range'_concat, List.map_append, show 0 + 1 * k = k by omega]
  rfl
theorem ptsN_le {ns : List Int} (h : ∀ n ∈ ns, n ≤ 9) : ∀ k, (ptsN ns k).length ≤ 9 * k
  | 0 => Nat.le_refl _
  | k + 1 => by
    have := ptsN_le h k
    have g : (ns.getD k 0).toNat ≤ 9 := by
      rw [List.getD_eq_getElem?_getD]
      cases e : ns[k]? with
      | none => decide
      | some n =>
        have := h n (List.mem_of_getElem? e)
        show n.toNat ≤ 9
        omega
    rw [ptsN_succ, List.length_append]
    unfold ptsAt
    rw [List.length_map, List.length_range']
    omega
section
variable {P : Program} {w : World} {K : PySem.W.Frag} {mg : Str → Option Value} {base : Heap}
def sp_stair (K : PySem.W.Frag) (C : Addr) : Sp := fun vs H Q _ => ∃ (q : Addr) (ns : List Int), vs = [.ref q] ∧ SqL K H q (ns.map V.int) ∧ ns ≠ [] ∧ RowI ns ∧ 1 ≤ (ptsN ns ns.length).length ∧ (ptsN ns ns.length).length ≤ 24 ∧ ((ptsN ns ns.length).map plainI).Nodup ∧ (∀ t ∈ ptsN ns ns.length, (∀ n ∈ t, n.natAbs < 2 ^ 30)) ∧
  ∀ H' x, Same H H' → SpotsAt K C H' x ((ptsN ns ns.length).map plainI) → Q (.ref x) H'
theorem sc_stair : FnScope ["row", "place", "number", "j"] ["row"] (defScope s_stair) := ⟨rfl, rfl, rfl, by decide +kernel, rfl, by decide +kernel, by decide +kernel⟩
theorem ok_stair {C fi f f1 : Addr} {fd fdi fd1 : FuncData} (F : Fun K "stair" "stair" s_stair f fd) (B : Blt mg) (S : SpTxt K mg C) (M : Mk K C fi) (GI : FnOk P w K mg base CX0 5 fi fdi ["self", "points"] (sp_init K C)) (bI : Binds K fdi ["self", "points"] [])
    (Dchk : Df K mg "check_row" s_check_row ["row"] f1 fd1) (Gchk : FnOk P w K mg base CX0 5 f1 fd1 ["row"] (sp_chk K)) : FnOk P w K mg base CX0 7 f fd ["row"] (sp_stair K C) := by
  refine F.ok sc_stair (fun vs H Q E h => ?_) (fun cdv A outer s H vs Q E hr h => ?_)
  · obtain ⟨a, ns, rfl, _⟩ := h
    rfl
  · obtain ⟨q0, ns, rfl, hs, ne, r, l1, l24, nd, sm, q⟩ := h
    have r5 : Room 5 _ := hr.mono (by decide)
    refine ⟨_, pss_cons (ps_expr (pdf Dchk Gchk r5 (pa_cons (pv 0) pa_nil)))
      (pss_one (ps_ret (pe_make (E := E0) M GI hr (by rfl) S.mgC bI .nil pass0 (pa_cons (pe_lc2 (own := [("place", 1), ("number", 2), ("j", 3)]) (vs1 := [3]) (g := gTup K 2 (gCons (gName 1) (gCons (gName 2) gNil))) (tt := tYes) (g1 := gName 3) (tt1 := tYes) rfl sc_stair.nd (pi_E true (by rfl) B.enumerate (pa_cons (pv 0) pa_nil)) (blkOk_by (N := ["row", "place", "number", "j"]) (sc := defScope s_stair) (by decide +kernel)) (by decide) (fun _ _ _ _ _ => pg_tup rfl (pgs_cons (pg_name (i := 1) sc_stair.nd rfl (Or.inl rfl)) (pgs_cons (pg_name (i := 2) sc_stair.nd rfl (Or.inl rfl)) pgs_nil))) (fun _ _ _ _ _ => pts_nil) (fun _ _ _ _ _ => pi_range1 (by rfl) B.range (pa_cons (pv 2) pa_nil)) (fun _ _ _ _ _ => pg_name (i := 3) sc_stair.nd rfl (Or.inl rfl)) (fun _ _ _ _ _ => pts_nil) (fun _ _ _ _ _ => pe_tup (pa_cons (pe_op op_sub (pv 1) (pv 3)) (pa_cons (pv 3) (pa_cons pe_int pa_nil))))) pa_nil)))), ?_⟩
    have len : (ns.map V.int).length = ns.length := List.length_map ..
    have l9 := r.len
    have n9 : ∀ n ∈ ns, n ≤ 9 := fun n hn => by have := row_le r n hn; omega
    refine ⟨_, rfl, q0, ns, rfl, .inl hs, ne, r, fun H1 s1 => ?_⟩
    refine ⟨_, rfl, q0, _, rfl, s1.seq hs, fun D hD => it_over (walk_E (b := true) (xs := ns.map V.int)) (fun k H5 => Same H1 H5 ∧ ∃ us, H5 D = some (.lst us) ∧ TupsAt H5 us (ptsN ns k)) ⟨same_new hD, [], upd_same, rfl, fun i t hi => by cases hi⟩ (fun k H5 _ h => (s1.trans h.1).seq hs) ?_ ?_⟩
    · rintro k y H5 H6 hk ⟨s5, us, h5, p5⟩ ⟨Tp, y1, y2, rfl, nT, rfl, ez1, ez2⟩
      cases ez1
      obtain ⟨n, hn, rfl⟩ : ∃ n, ns[k]? = some n ∧ y2 = V.int n := by
        have ez2 : (ns.map V.int)[k]? = some y2 := ez2
        rw [List.getElem?_map] at ez2
        cases e : ns[k]? with
        | none => rw [e] at ez2; cases ez2
        | some n => rw [e] at ez2; cases ez2; exact ⟨n, rfl, rfl⟩
      have sT : Same H5 (upd H5 Tp (.tup [.int (k : Nat), .int n])) := same_new nT
      have n9' := n9 n (List.mem_of_getElem? hn)
      have n1 := r.pos n (List.mem_of_getElem? hn)
      have k9 : k < 9 := by rw [len] at hk; omega
      have pk := ptsN_le n9 k
      have en : (ns.getD k 0).toNat = n.toNat := by rw [List.getD_eq_getElem?_getD, hn]; rfl
      refine ⟨Tp, _, rfl, SqT.mk upd_same, rfl, _, _, rfl, _, _, rfl, rfl, rfl, yes_ite ?_⟩
      have p6 := (p5.same sT)
      have h6 := sT _ _ h5
      have s6 := s5.trans sT
      revert p6 h6 s6
      generalize upd H5 Tp (.tup [.int (k : Nat), .int n]) = H6
      intro p6 h6 s6
      refine ⟨_, rfl, n, rfl, by omega, by omega, it_over (walk_range (lo := 0) (n := n.toNat)) (fun j H7 => Same H1 H7 ∧ ∃ us, H7 D = some (.lst us) ∧ TupsAt H7 us (ptsN ns k ++ ptsAt k j)) ⟨s6, us, h6, by show TupsAt H6 us (ptsN ns k ++ []); rw [List.append_nil]; exact p6⟩ (fun _ _ _ _ => trivial) ?_ ?_⟩
      · rintro j x H7 Hx hj ⟨s7, ws, h7, p7⟩ ⟨rfl, rfl⟩
        have e0 : (0 : Int) + (j : Nat) = (j : Nat) := by omega
        dsimp only
        rw [e0]
        have wl := p7.1
        have jl : (ptsAt k j).length = j := by unfold ptsAt; simp
        rw [List.length_append, jl] at wl
        refine ⟨rfl, yes_ite ?_⟩
        refine ⟨_, rfl, _, rfl, _, _, rfl, rfl, _, rfl, by show 3 ≤ sizeLine; decide, fun t ht => ?_⟩
        have s8 := same_new (o := .tup [.int ((k : Int) - (j : Int)), .int (j : Nat), .int 1]) ht
        refine ⟨ws, s8 _ _ h7, by rw [sizeLine_eq]; omega, (s7.trans s8).put hD, _, upd_same, ?_⟩
        rw [ptsAt_succ, ← List.append_assoc]
        exact ((p7.same s8).snoc (t := [(k : Int) - (j : Int), (j : Int), 1]) upd_same).put (s8 _ _ h7)
      · rintro H7 ⟨s7, ws, h7, p7⟩
        refine ⟨s7, ws, h7, ?_⟩
        rw [ptsN_succ, en]
        exact p7
    · rintro H5 ⟨s5, us, h5, p5⟩
      rw [len] at p5
      refine fun x dx hx hdx ndx => ⟨H5, x, dx, D, us, ptsN ns ns.length, rfl, ?_, hx, upd_same, .inl (SqL.mk h5), p5.1, fun i v t hv ht => ?_, l1, l24, nd, fun H6 s6 sp => ⟨rfl, q _ _ ((s1.trans s5).trans s6) sp⟩⟩
      · exact (same_new hdx).trans (same_new (by rw [upd_ne ndx.symm]; exact hx))
      · obtain ⟨q1, h1, h2⟩ := p5.2 i t ht
        rw [hv] at h1
        cases h1
        obtain ⟨i', hi', ht'⟩ : ∃ i', t ∈ ptsAt i' (ns.getD i' 0).toNat ∧ True := by
          obtain ⟨i', _, h⟩ := List.mem_flatMap.mp (List.mem_of_getElem? ht)
          exact ⟨i', h, trivial⟩
        obtain ⟨j, _, rfl⟩ := List.mem_map.mp hi'
        exact ⟨⟨q1, _, _, _, rfl, rfl, .inr (SqT.mk h2)⟩, ⟨1, by simp, by decide⟩, sm _ (List.mem_of_getElem? ht)⟩
end
end G0

set_option pp.oneline true
namespace G0
open PySem PySem.Spec PyProof.Rows L2
theorem KB.n {K : PySem.W.Frag} {fd : FuncData} {ps ks : List Str} {n : Nat} (h : KB fd ps ks n) : KBn K fd ps n ks (fun us ws => us ++ ws) (fun vs zs => vs ++ zs) :=
  ⟨fun s us ws X l1 l2 => .of_eq (h.to us ws l1 l2), fun r1 r2 => r1.append r2⟩
section
variable {X : Cx} {k n : Nat} {f C : Addr} {fd : FuncData} {ps ks : List Str} {sp : Sp} {E : XK} {x m : Str} {p pos apos : Pos} {e o : Expr} {kws : List Keyword} {ta : TE} {tk : TA} {g : List Value → List Value → List Value} {gV : List V → List V → List V}
theorem run_kbn {pn : List (Addr × Obj)} {σ : L2.St} {H : Hp} {s : Shared} {Q : VK} {us ws : List Value} {vs zs : List V} (F : FnOk X.prog X.w X.K X.mg X.base CX0 k f fd ps sp) (room : Room k X.A) (bn : KBn X.K fd ps n ks g gV)
    (J : Inv X pn σ H s) (rv : Vals vs us) (rz : Vals zs ws) (l1 : vs.length = n) (l2 : zs.length = ks.length) (want : sp (gV vs zs) H Q E) : wpAny (model X.prog X.w) X.A (call (.ref f) us (ks.zip ws)) (EP X pn σ Q) X.xe s := by
  refine wpAny_call (codeAny_mono (F.run X.A X.stack s H ⟨us, ks.zip ws⟩ (g us ws) (gV vs zs) Q E room J.env0 (bn.to s us ws J.kIn (rv.length.symm.trans l1) (rz.length.symm.trans l2)) (bn.rel rv rz) want) fun res s2 got => ?_)
  match res, got with
  | .error _, got => exact got.elim
  | .ok (.ret _), got => exact J.after got
  | .ok .next, got => exact got.elim
  | .ok .brk, got => exact got.elim
  | .ok .cont, got => exact got.elim
def tCallS (sp : Sp) (n : Nat) (gV : List V → List V → List V) (E : XK) (tk : TA) : TE := fun σ H Q => tk σ H fun zs H2 => zs.length = n ∧ sp (gV [] zs) H2 Q E
/-- f(k = v, ..), in whatever sequence -/
theorem pe_callS (F : FnOk X.prog X.w X.K X.mg X.base CX0 k f fd ps sp) (room : Room k X.A) (gl : Gl X x) (at_ : X.mg x = some (.ref f)) (kp : PySem.W.keepIn X.K (.ref f) = true) (bn : KBn X.K fd ps 0 ks g gV) (pk : PK X kws tk)
    (hall : (backToKw pos (keywordEach kws X.env)).all (·.1.isSome) = true := by rfl) (hks : (backToKw pos (keywordEach kws X.env)).filterMap (·.1) = ks := by rfl) (hdb : (x == ("__debug__" : Str)) = false := by decide)
    (hpl : ((backTo pos (starEach [] X.env)).any (·.1) || (backToKw pos (keywordEach kws X.env)).any (·.1.isNone)) = false := by rfl) : PE X (.Call (.Name x p) [] kws pos) (tCallS sp ks.length gV E tk) := by
  constructor
  intro pn s σ H Q J want
  apply wpAny_Call_Name_kw
  refine ld_glob J gl at_ ?_ hdb
  refine PySem.W.callWith_KW0 (h₀ := X.base) J.ok.mod.kin kp hall ?_ hpl
  refine thn (pk.run pos pn s σ H _ J want) ?_
  rintro ws s2 ⟨zs, H2, J2, rz, l2, q2⟩
  rw [hks]
  exact ⟨J2.kIn, run_kbn (us := []) (vs := []) F room bn J2 .nil rz rfl l2 q2⟩
end
theorem vals_rev : ∀ {vs : List V} {us : List Value}, Vals vs us → Vals vs.reverse us.reverse
  | _, _, .nil => .nil
  | _, _, .cons h t => by
    rw [List.reverse_cons, List.reverse_cons]
    exact (vals_rev t).append (.cons h .nil)
theorem kb_sw {K : PySem.W.Frag} {x qual : Str} {st : Stmt} {f : Addr} {fd : FuncData} {ps ks : List Str} {n : Nat} (F : Fun K x qual st f fd)
    (h : ∀ (kV doc pm : Value) (an : Option Addr) (cdv ct : Value) (us ws : List Value), us.length = n → ws.length = ks.length → bindArgs (PySem.W.fnOf x qual (defArgs st) (defBody st) (defScope st) .none kV doc pm an cdv ct) ⟨us, ks.zip ws⟩ = pure (ps.zip (us ++ ws.reverse))) : KBn K fd ps n ks (fun us ws => us ++ ws.reverse) (fun vs zs => vs ++ zs.reverse) := by
  obtain ⟨oc, od, kV, doc, pm, an, cdv, ct, osl, rfl, _, _⟩ := F.ex
  exact ⟨fun s us ws _ l1 l2 => .of_eq (h kV doc pm an cdv ct us ws l1 l2), fun r1 r2 => r1.append (vals_rev r2)⟩
theorem stair_all : (sidesI.all fun ab => let ns := boxI ab.1 ab.2; let ts := ptsN ns ns.length; decide (ts.length = ab.1 * ab.2) && decide ((ts.map plainI).Nodup) && ts.all fun t => t.all fun n => decide (n.natAbs < 2 ^ 30)) = true := by decide +kernel
theorem stair_ok {a b : Nat} (h : (a, b) ∈ sidesI) : (ptsN (boxI a b) (boxI a b).length).length = a * b ∧ ((ptsN (boxI a b) (boxI a b).length).map plainI).Nodup ∧ ∀ t ∈ ptsN (boxI a b) (boxI a b).length, ∀ n ∈ t, n.natAbs < 2 ^ 30 := by
  have t := List.all_eq_true.mp stair_all _ h
  simp only [Bool.and_eq_true, decide_eq_true_eq, List.all_eq_true] at t
  exact ⟨t.1.1, t.1.2, t.2⟩
end G0

set_option pp.oneline true
namespace G0
open PySem PySem.Spec PyProof.Rows L2
abbrev s_boxed : Stmt := top 47
section
variable {P : Program} {w : World} {K : PySem.W.Frag} {mg : Str → Option Value} {base : Heap}
/-- sides picked, two names for them -/
def sp_boxed : Sp := fun vs H Q _ => ∃ (p : Addr) (D : Hp), vs = [.ref p] ∧ Wd p D H ∧ ∀ H', Wd p D H' → Q (.bl true) H'
theorem sides_new {p LS : Addr} {D H H1 : Hp} {us : List V} (wd : Wd p D H) (s : Same H H1) (h : H1 LS = some (.lst us)) (n : H LS = none) (ps : PairsAt H1 us sidesI) : ∃ D', Wd p D' H1 ∧ Same D D' ∧ D' LS = some (.lst us) ∧ PairsAt D' us sidesI := by
  have w1 := wd.pure s
  have hp := wd.ne n
  obtain ⟨w2, s2⟩ := w1.all
  refine ⟨_, w2, s2, by rw [del_ne hp]; exact h, ps.1, fun i ab hi => ?_⟩
  obtain ⟨t, h1, h2⟩ := ps.2 i ab hi
  refine ⟨t, h1, ?_⟩
  rw [del_ne fun e => ?_]
  · exact h2
  · obtain ⟨x, y, _, _, _, z⟩ := w1.pot
    rw [e, z] at h2
    cases h2
theorem sc_boxed : FnScope ["_law_pot_here", "_law_one", "_law_other", "_law_due", "_law_both", "_law_told", "_law_step", "_law_points"] ["_law_pot_here"] (defScope s_boxed) := ⟨rfl, rfl, rfl, by decide +kernel, rfl, by decide +kernel, by decide +kernel⟩
theorem ok_boxed {C fp f f1 f2 f3 f4 f5 f6 f7 f8 f9 f10 : Addr} {fd fdp fd1 fd2 fd3 fd4 fd5 fd6 fd7 fd8 fd9 fd10 : FuncData} (F : Fun K "_law_boxed_right" "_law_boxed_right" s_boxed f fd) (B : Blt mg) (S : SpTxt K mg C)
    (mPt : Meth K C "points" fp) (Gpt : FnOk P w K mg base CX0 1 fp fdp ["self"] (sp_points K C)) (bPt : Binds K fdp ["self"] [])
    (Dpick : Df K mg "_law_pick" s_pick ["_law_pot_here", "_law_some"] f1 fd1) (Gpick : FnOk P w K mg base CX0 2 f1 fd1 ["_law_pot_here", "_law_some"] (sp_pick K))
    (Dsd : Df K mg "_law_sides" s_sides [] f2 fd2) (Gsd : FnOk P w K mg base CX0 1 f2 fd2 [] sp_sides)
    (Dlb : Df K mg "_law_box" s_lbox ["_law_one", "_law_other"] f3 fd3) (Glb : FnOk P w K mg base CX0 1 f3 fd3 ["_law_one", "_law_other"] sp_lbox)
    (Dbox : Df K mg "box" s_box ["first", "second"] f4 fd4) (Gbox : FnOk P w K mg base CX0 4 f4 fd4 ["first", "second"] sp_box) (Kbox : KBn K fd4 ["first", "second"] 0 ["second", "first"] (fun us ws => us ++ ws.reverse) (fun vs zs => vs ++ zs.reverse))
    (Drow : Df K mg "is_row" s_is_row ["value"] f5 fd5) (Grow : FnOk P w K mg base CX0 4 f5 fd5 ["value"] (sp_rowA K))
    (Dbo : Df K mg "box_of" s_box_of ["row"] f6 fd6) (Gbo : FnOk P w K mg base CX0 8 f6 fd6 ["row"] (sp_boxof K)) (Kbo : KB fd6 ["row"] ["row"] 0)
    (Dim : Df K mg "is_mirrored" s_is_mirrored ["row"] f7 fd7) (Gim : FnOk P w K mg base CX0 7 f7 fd7 ["row"] (sp_ismirr K))
    (Dlen : Df K mg "lengths" s_lengths ["row"] f8 fd8) (Glen : FnOk P w K mg base CX0 6 f8 fd8 ["row"] (sp_lens K))
    (Dmi : Df K mg "mirrored" s_mirrored ["row"] f9 fd9) (Gmi : FnOk P w K mg base CX0 6 f9 fd9 ["row"] (sp_mirr K))
    (Dst : Df K mg "stair" s_stair ["row"] f10 fd10) (Gst : FnOk P w K mg base CX0 7 f10 fd10 ["row"] (sp_stair K C)) :
    FnG P w K mg base 9 f fd ["_law_pot_here"] sp_boxed := by
  refine F.okG sc_boxed (fun vs H Q E h => ?_) (fun cdv A outer s H vs Q E gd hr h => ?_)
  · obtain ⟨p, D, rfl, _⟩ := h
    rfl
  · obtain ⟨p, D, rfl, wd, q⟩ := h
    have hu := hr.units
    have r1 : Room 1 _ := hr.mono (by decide)
    have r2 : Room 2 _ := hr.mono (by decide)
    have r4 : Room 4 _ := hr.mono (by decide)
    have r6 : Room 6 _ := hr.mono (by decide)
    have r7 : Room 7 _ := hr.mono (by decide)
    have r8 : Room 8 _ := hr.mono (by decide)
    refine ⟨_, pss_cons (ps_asg (pdf Dpick Gpick r2 (pa_cons (pv 0) (pa_cons (pe_call0 (E := E0) Gsd r1 (by rfl) Dsd.g Dsd.F.kp Dsd.b .nil pass0) pa_nil))) (pg_tup rfl (pgs_cons (pg_name (i := 1) sc_boxed.nd rfl (Or.inr rfl)) (pgs_cons (pg_name (i := 2) sc_boxed.nd rfl (Or.inr rfl)) pgs_nil))))
      (pss_cons (ps_par (i := 3) (j := 4) rfl sc_boxed.nd rfl rfl (by decide) rfl rfl (pa_cons (pdf Dlb Glb r1 (pa_cons (pv 1) (pa_cons (pv 2) pa_nil))) (pa_cons (pe_tup (pa_cons (pe_callB (call_min2 rfl) (by rfl) B.min boot_min (pa_cons (pv 1) (pa_cons (pv 2) pa_nil))) (pa_cons (pe_callB (call_max2 rfl) (by rfl) B.max boot_max (pa_cons (pv 1) (pa_cons (pv 2) pa_nil))) pa_nil))) pa_nil)) (by rfl))
      (pss_cons (ps_set (i := 5) sc_boxed.nd rfl (Or.inl rfl) (pdf Dbox Gbox r4 (pa_cons (pv 1) (pa_cons (pv 2) pa_nil))))
      (pss_cons (ps_if (PW.pt (pw_or (pt_not (pt_val (pe_callB (isiK (K := K) rfl) (by rfl) B.isinstance boot_isi (pa_cons (pv 5) (pa_cons (pty B.list boot_tlist) pa_nil))))) (pw_or (pt_cmpR (op_neD hu) (pv 5) (pv 3) (nomark _)) (pw_or (pt_cmpR (op_neD hu) (pe_callS (E := E0) Gbox r4 (by rfl) Dbox.g Dbox.F.kp Kbox (pk_cons (pv 1) (pk_cons (pv 2) pk_nil))) (pv 3) (nomark _)) (pw_or1 (pt_cmpR op_notBl (pdf Drow Grow r4 (pa_cons (pv 3) pa_nil)) pe_bl (nomark _))))))) (pss_one (ps_ret pe_bl)) pss_nil)
      (pss_cons (ps_if (PW.pt (pw_or (pt_cmpR (op_neD hu) (pdf Dbo Gbo r8 (pa_cons (pv 5) pa_nil)) (pv 4) (nomark _)) (pw_or (pt_cmpR (op_neD hu) (pe_callN (E := E0) Gbo r8 (by rfl) Dbo.g Dbo.F.kp Kbo (pk_cons (pe_callTy call_tuple_of (by rfl) B.tuple boot_ttuple (pa_cons (pv 5) pa_nil)) pk_nil)) (pv 4) (nomark _)) (pw_or (pt_not (pt_val (pe_callB (isiK (K := K) rfl) (by rfl) B.isinstance boot_isi (pa_cons (pdf Dbo Gbo r8 (pa_cons (pv 5) pa_nil)) (pa_cons (pty B.tuple boot_ttuple) pa_nil))))) (pw_or1 (pt_cmpR op_notBl (pdf Dim Gim r7 (pa_cons (pv 5) pa_nil)) pe_bl (nomark _))))))) (pss_one (ps_ret pe_bl)) pss_nil)
      (pss_cons (ps_if (PW.pt (pw_or (pt_cmpR (op_neD hu) (pdf Dlen Glen r6 (pa_cons (pv 5) pa_nil)) (pe_lc (own := [("_law_step", 6)]) (g := gName 6) (tt := tYes) rfl sc_boxed.nd (pi_range1 (by rfl) B.range (pa_cons (pe_ix ix_tup (pv 4) pe_int (fun _ _ => rfl)) pa_nil)) (blkOk_by (N := ["_law_pot_here", "_law_one", "_law_other", "_law_due", "_law_both", "_law_told", "_law_step", "_law_points"]) (sc := defScope s_boxed) (by decide +kernel)) (fun _ _ _ _ _ => pg_name (i := 6) sc_boxed.nd rfl (Or.inl rfl)) (fun _ _ _ _ _ => pts_nil) (fun _ _ _ _ _ => (pe_op op_sub (pe_op op_sub (pe_op op_add (pv 1) (pv 2)) pe_int) (pe_op op_mul pe_int (pv 6))))) (nomark _)) (pw_or1 (pt_cmpR (op_neD hu) (pdf Dmi Gmi r6 (pa_cons (pv 5) pa_nil)) (pv 3) (nomark _))))) (pss_one (ps_ret pe_bl)) pss_nil)
      (pss_cons (ps_set (i := 7) sc_boxed.nd rfl (Or.inl rfl) (pe_meth0 (E := E0) (pdf Dst Gst r7 (pa_cons (pv 5) pa_nil)) S.cl mPt Gpt r1 bPt .nil pass0))
      (pss_cons (ps_if (pt_cmpR op_ne (pe_callB call_len_seq (by rfl) B.len PySem.boot_len (pa_cons (pv 7) pa_nil)) (pe_op op_mul (pv 1) (pv 2)) (nomark _)) (pss_one (ps_ret pe_bl)) pss_nil)
      (pss_cons (ps_expr (pe_bm PySem.F.plainAttrs_list PySem.F.slot_list_append PySem.F.type_list_append mt_append (pv 5) (pa_cons pe_non pa_nil)))
      (pss_one (ps_ret (pe_cmpR (op_eqD hu) (pdf Dbox Gbox r4 (pa_cons (pv 1) (pa_cons (pv 2) pa_nil))) (pv 3) (nomark _)))))))))))), ?_⟩
    refine ⟨_, rfl, rfl, fun H0 LS us s0 hLS0 hLS ps => ?_⟩
    obtain ⟨D0, w0, sD0, hLSD, psD⟩ := sides_new wd s0 hLS hLS0 ps
    have ul : us.length = sidesI.length := ps.1
    have sl : 1 ≤ sidesI.length ∧ sidesI.length ≤ 90 := by decide +kernel
    refine ⟨p, LS, D0, us, rfl, w0, hLSD, by omega, by omega, fun H1 v i w1 hv => ?_⟩
    have hi : i < sidesI.length := by
      have := (List.getElem?_eq_some_iff.mp hv).1
      omega
    have hab : sidesI[i]? = some sidesI[i] := List.getElem?_eq_getElem hi
    have hin : sidesI[i] ∈ sidesI := List.getElem_mem hi
    obtain ⟨t, ht, htu⟩ := psD.2 i _ hab
    rw [hv] at ht
    cases ht
    revert hin htu
    generalize sidesI[i] = ab
    obtain ⟨a, b⟩ := ab
    intro hin htu
    have sP := side_ok hin
    obtain ⟨stl, stn, sts⟩ := stair_ok hin
    have a1 := sP.a1
    have b1 := sP.b1
    have s10 := sP.s10
    have ab24 := sP.ab
    have ht1 := w1.s _ _ htu
    clear hLS hLS0 ps ul sl hv hi hab hLSD psD htu w0
    refine ⟨t, _, rfl, SqT.mk ht1, rfl, _, _, rfl, _, _, rfl, rfl, ?_⟩
    refine ⟨_, rfl, _, rfl, a, b, rfl, a1, b1, by omega, by omega, fun H2 L s2 hL0 hL => ?_⟩
    refine ⟨_, rfl, _, rfl, _, _, rfl, _, rfl, _, rfl, _, _, rfl, by show 2 ≤ sizeLine; decide, fun Tb hTb => ?_⟩
    have emin : (if ((b : Nat) : Int) < ((a : Nat) : Int) then ((b : Nat) : Int) else ((a : Nat) : Int)) = ((min a b : Nat) : Int) := by split <;> omega
    have emax : (if ((b : Nat) : Int) > ((a : Nat) : Int) then ((b : Nat) : Int) else ((a : Nat) : Int)) = ((max a b : Nat) : Int) := by split <;> omega
    rw [emin, emax]
    have sTb := same_new (o := .tup [.int ((min a b : Nat) : Int), .int ((max a b : Nat) : Int)]) hTb
    have zTb : (upd H2 Tb (.tup [.int ((min a b : Nat) : Int), .int ((max a b : Nat) : Int)])) Tb = some (.tup [.int ((min a b : Nat) : Int), .int ((max a b : Nat) : Int)]) := upd_same
    have hL3 := sTb _ _ hL
    have s13 := s2.trans sTb
    revert sTb zTb hL3 s13
    generalize upd H2 Tb (.tup [.int ((min a b : Nat) : Int), .int ((max a b : Nat) : Int)]) = H3
    intro _ zTb hL3 s13
    have w3 := w1.pure s13
    clear hL hTb s2 s13 ht1 hL0
    refine ⟨_, _, rfl, _, rfl, _, rfl, a, b, rfl, a1, b1, ab24, s10, fun H4 T s4 hT0 hT => ?_⟩
    rw [← sP.e1] at hT
    have mB : ∀ {H : Hp} {l : Addr}, H l = some (.lst ((minBox a b).map V.int)) → H l = some (.lst ((boxI a b).map V.int)) := fun h => by rw [sP.e1]; exact h
    have mB2 : ∀ {H : Hp} {l : Addr}, H l = some (.lst ((minBox b a).map V.int)) → H l = some (.lst ((boxI a b).map V.int)) := fun h => by rw [sP.e1, ← sP.e3]; exact h
    have rI := (row_iff _).mpr sP.fn
    have rne : boxI a b ≠ [] := fun e => by
      have := sP.len
      rw [e] at this
      have : 0 = a + b - 1 := this
      omega
    have rev := sP.rev
    have rlen := sP.len
    have rmm := sP.mm
    have rmx := sP.mx
    have rsz := sP.sz
    clear sP
    revert hT hL3 mB mB2 rI rne rev rlen rmm rmx rsz stl stn sts
    generalize boxI a b = rs
    intro stl stn sts hL3 hT mB mB2 rI rne rev rlen rmm rmx rsz
    have ezz : ∀ xs : List Int, PyData.eqv (dLst xs) (dLst xs) = true := fun xs => by rw [eqv_lst]; simp
    have nzz : ∀ xs : List Int, (!PyData.eqv (dLst xs) (dLst xs)) = false := fun xs => by rw [ezz]; rfl
    have r9 := rI.len
    have em : ∀ m, m ∈ rs → (∀ y ∈ rs, y ≤ m) → m = ((min a b : Nat) : Int) := fun m h1 h2 => by
      have := h2 _ rmm
      have := rmx m h1
      omega
    have hL4 := s4 _ _ hL3
    have hB4 := s4 _ _ zTb
    refine ⟨_, rfl, _, _, _, _, true, rfl, .ty "list", ty_l (SqL.mk hT), kit_ll, true, rfl, iteF ?_⟩
    refine ⟨_, rfl, _, rfl, dLst rs, dLst rs, dp_lst (SqL.mk hT), dp_lst (SqL.mk hL4), shaped_lst _, shaped_lst _, _, rfl, ?_⟩
    rw [nzz]
    refine iteF ⟨_, rfl, _, rfl, rfl, b, a, rfl, b1, a1, by rw [Nat.mul_comm]; exact ab24, by omega, fun H5 T5 s5 _ hT5 => ?_⟩
    have hT5 := mB2 hT5
    refine ⟨_, rfl, dLst rs, dLst rs, dp_lst (SqL.mk hT5), dp_lst (SqL.mk (s5 _ _ hL4)), shaped_lst _, shaped_lst _, _, rfl, ?_⟩
    rw [nzz]
    refine iteF ⟨_, rfl, .ref L, _, rfl, av_ints (.inl (SqL.mk (s5 _ _ hL4))), fun xs e => ?_, fun H6 s6 => ?_⟩
    · cases e
      rw [List.length_map]
      omega
    rw [rowB_true rne (fun n hn => by have := rI.pos n hn; omega) ((row_iff rs).mp rI)]
    refine ⟨_, _, rfl, rfl, _, rfl, iteF ?_⟩
    dsimp only [tNext]
    have s46 := s5.trans s6
    clear hT5 s5 s6
    -- box_of
    have tn : ∀ {H : Hp} {t : Addr} {m : Int}, m ∈ rs → (∀ y ∈ rs, y ≤ m) → H t = some (.tup [.int m, .int ((rs.length : Int) + 1 - m)]) → SqT K H t ([((min a b : Nat) : Int), ((max a b : Nat) : Int)].map V.int) := fun h1 h2 h => by
      rw [em _ h1 h2, show (rs.length : Int) + 1 - ((min a b : Nat) : Int) = ((max a b : Nat) : Int) by omega] at h
      exact SqT.mk h
    have btt : ∀ {H : Hp}, Same H4 H → SqT K H Tb ([((min a b : Nat) : Int), ((max a b : Nat) : Int)].map V.int) := fun s => SqT.mk (s _ _ hB4)
    have ntt : (!PyData.eqv (dTup [((min a b : Nat) : Int), ((max a b : Nat) : Int)]) (dTup [((min a b : Nat) : Int), ((max a b : Nat) : Int)])) = false := by rw [eqv_tup]; simp
    refine ⟨_, rfl, T, rs, rfl, .inl (SqL.mk (s46 _ _ hT)), rne, rI, fun _ m mm mx H7 t7 s7 _ h7 => ?_, fun no => absurd rev no⟩
    have s47 := s46.trans s7
    refine ⟨_, rfl, dTup _, dTup _, dp_tup (tn mm mx h7), dp_tup (btt s47), shaped_tup _, shaped_tup _, _, rfl, ?_⟩
    rw [ntt]
    refine iteF ⟨_, rfl, T, _, rfl, .inl ⟨SqL.mk (s47 _ _ hT), fun u8 hu8 => ⟨rfl, ?_⟩⟩⟩
    have s48 := s47.trans (same_new (o := .tup (rs.map V.int)) hu8)
    refine ⟨u8, rs, rfl, .inr (SqT.mk upd_same), rne, rI, fun _ m mm mx H9 t9 s9 _ h9 => ?_, fun no => absurd rev no⟩
    have s49 := s48.trans s9
    refine ⟨_, rfl, dTup _, dTup _, dp_tup (tn mm mx h9), dp_tup (btt s49), shaped_tup _, shaped_tup _, _, rfl, ?_⟩
    rw [ntt]
    refine iteF ⟨_, rfl, T, rs, rfl, .inl (SqL.mk (s49 _ _ hT)), rne, rI, fun _ m mm mx H10 t10 s10' _ h10 => ?_, fun no => absurd rev no⟩
    have s410 := s49.trans s10'
    refine ⟨_, _, _, _, true, rfl, .ty "tuple", ty_t (tn mm mx h10), kit_tt, true, rfl, iteF ?_⟩
    refine ⟨_, rfl, T, rs, rfl, .inl (SqL.mk (s410 _ _ hT)), rne, rI, fun H11 s11 => ?_⟩
    rw [decide_eq_true rev]
    refine ⟨_, _, rfl, rfl, _, rfl, iteF ?_⟩
    dsimp only [tNext]
    have s411 := s410.trans s11
    revert s411
    clear s46 s47 s48 s49 s410 h7 h9 h10 hu8 s7 s9 s10' s11
    intro s411
    -- lengths, mirrored
    refine ⟨_, rfl, T, rs, rfl, .inl (SqL.mk (s411 _ _ hT)), rne, rI, fun m mm mx H12 L12 s12 _ h12 => ?_⟩
    rw [em m mm mx, show (((min a b : Nat) : Int)).toNat = min a b by omega, rsz] at h12
    have s412 := s411.trans s12
    let FS : Nat → Int := fun (k : Nat) => ((a + b : Nat) : Int) - 1 - 2 * k
    refine ⟨_, rfl, Tb, _, _, _, rfl, rfl, btt s412, rfl, _, rfl, by omega, by omega, fun D9 hD9 => lc_range (n := (((min a b : Nat) : Int)).toNat) (fun k H' => Same H12 H' ∧ H' D9 = some (.lst (((List.range' 0 k).map FS).map V.int))) ⟨same_new hD9, upd_same⟩ ?_ ?_⟩
    · rintro k H13 hk ⟨s13, h13⟩
      have e0 : (0 : Int) + (k : Nat) = (k : Nat) := by omega
      rw [e0]
      refine ⟨rfl, yes_ite ?_⟩
      refine ⟨_, rfl, _, rfl, _, _, rfl, rfl, _, _, rfl, rfl, _, rfl, _, _, rfl, rfl, .inl ⟨by omega, by omega⟩, _, _, rfl, rfl, ?_⟩
      refine ⟨_, h13, by rw [List.length_map, List.length_map, List.length_range', sizeLine_eq]; omega, s13.put hD9, ?_⟩
      rw [upd_same, List.range'_concat, List.map_append, List.map_append]
      show some (HO.lst (_ ++ [V.int ((a : Int) + (b : Int) - 1 - 2 * (k : Int))])) = some (HO.lst (_ ++ [V.int (FS (0 + 1 * k))]))
      rw [show 0 + 1 * k = k by omega]
      show _ = some (HO.lst (_ ++ [V.int (((a + b : Nat) : Int) - 1 - 2 * (k : Int))]))
      rw [show ((a + b : Nat) : Int) = (a : Int) + (b : Int) by omega]
    rintro H13 ⟨s13, h13⟩
    rw [show (((min a b : Nat) : Int)).toNat = min a b by omega] at h13
    have s413 := s412.trans s13
    refine ⟨dLst _, dLst _, dp_lst (SqL.mk (s13 _ _ h12)), dp_lst (SqL.mk h13), shaped_lst _, shaped_lst _, _, rfl, ?_⟩
    rw [nzz]
    refine iteF ⟨_, rfl, T, rs, rfl, .inl (SqL.mk (s413 _ _ hT)), rne, rI, fun H14 L14 s14 _ h14 => ?_⟩
    rw [rev] at h14
    have s414 := s413.trans s14
    refine ⟨_, rfl, dLst rs, dLst rs, dp_lst (SqL.mk h14), dp_lst (SqL.mk (s414 _ _ hL4)), shaped_lst _, shaped_lst _, _, rfl, ?_⟩
    rw [nzz]
    refine iteF ?_
    dsimp only [tNext]
    revert s414
    clear h12 s12 s412 s13 h13 hD9 s413 s14 h14 s411
    intro s414
    -- stair
    refine ⟨_, rfl, T, rs, rfl, SqL.mk (s414 _ _ hT), rne, rI, by rw [stl]; exact Nat.mul_le_mul a1 b1, by rw [stl]; exact ab24, stn, sts, fun H15 x s15 sp => ?_⟩
    have s415 := s414.trans s15
    obtain ⟨dx, lp, ws, x1, x2, x3⟩ := id sp
    refine ⟨x, dx, _, rfl, x1, rfl, x, _, rfl, sp, fun H16 l16 s16 _ tp => ?_⟩
    obtain ⟨zs, z1, z2⟩ := tp
    have zl : zs.length = a * b := by rw [G0.DpAll.len z2, List.length_map, List.length_map, stl]
    have s416 := s415.trans s16
    have hm : (a : Int) * (b : Int) = ((a * b : Nat) : Int) := by simp
    refine ⟨_, rfl, l16, zs, rfl, .inl (SqL.mk z1), _, rfl, _, rfl, _, _, rfl, rfl, .inl ⟨by omega, by omega⟩, rfl, false, ?_, iteF ?_⟩
    · show V.bl (!decide (V.int ((zs.length : Nat) : Int) = V.int ((a : Int) * (b : Int)))) = V.bl false
      rw [zl, hm]
      simp
    dsimp only [tNext]
    have hT16 := s416 _ _ hT
    refine ⟨_, rfl, .inl ⟨rfl, _, SqL.mk hT16⟩, T, _, _, rfl, rfl, hT16, by rw [List.length_map, sizeLine_eq]; omega, ?_⟩
    have s317 : Same H3 (upd H16 T (.lst (rs.map V.int ++ [.non]))) := (s4.trans s416).put hT0
    revert s317
    generalize upd H16 T (.lst (rs.map V.int ++ [.non])) = H17
    intro s317
    refine ⟨_, rfl, _, rfl, a, b, rfl, a1, b1, ab24, s10, fun H18 T18 s18 _ h18 => ?_⟩
    have h18 := mB h18
    refine ⟨_, rfl, dLst rs, dLst rs, dp_lst (SqL.mk h18), dp_lst (SqL.mk (s18 _ _ (s317 _ _ hL3))), shaped_lst _, shaped_lst _, ?_⟩
    rw [ezz]
    exact q _ ((w3.pure (s317.trans s18)).weak sD0)
end
end G0

set_option pp.oneline true
namespace G0
open PySem PySem.Spec PyProof.Rows L2
abbrev s_right : Stmt := top 49
abbrev s_law : Stmt := top 50
theorem cut_all : (sidesI.all fun ab => decide ((boxI ab.1 ab.2).length ≤ 1) || (ff (boxI ab.1 ab.2).dropLast).isNone) = true := by decide +kernel
theorem cut_neg1 (xs : List V) (x : V) : cutV (xs ++ [x]) none (some (-1)) = xs := by
  unfold cutV HT.sIx
  have e : (-1 + ((xs.length : Int) + 1)).toNat = xs.length := by omega
  simp [e]
section
variable {P : Program} {w : World} {K : PySem.W.Frag} {mg : Str → Option Value} {base : Heap}
def sp_right : Sp := fun vs H Q _ => ∃ (p : Addr) (D : Hp), vs = [.ref p] ∧ Wd p D H ∧ ∀ H', Wd p D H' → Q (.bl true) H'
theorem sc_right : FnScope ["_law_pot_here", "_law_turn", "_law_one", "_law_other", "_law_numbers"] ["_law_pot_here"] (defScope s_right) := ⟨rfl, rfl, rfl, by decide +kernel, rfl, by decide +kernel, by decide +kernel⟩
theorem ok_right {f f1 f2 f3 f4 f5 f6 : Addr} {fd fd1 fd2 fd3 fd4 fd5 fd6 : FuncData} (F : Fun K "_law_right" "_law_right" s_right f fd) (B : Blt mg)
    (Dlrow : Df K mg "_law_row" s_lrow ["_law_pot_here", "_law_most"] f1 fd1) (Glrow : FnOk P w K mg base CX0 2 f1 fd1 ["_law_pot_here", "_law_most"] sp_lrow)
    (Dpick : Df K mg "_law_pick" s_pick ["_law_pot_here", "_law_some"] f2 fd2) (Gpick : FnOk P w K mg base CX0 2 f2 fd2 ["_law_pot_here", "_law_some"] (sp_pick K))
    (Dsd : Df K mg "_law_sides" s_sides [] f3 fd3) (Gsd : FnOk P w K mg base CX0 1 f3 fd3 [] sp_sides)
    (Dlb : Df K mg "_law_box" s_lbox ["_law_one", "_law_other"] f4 fd4) (Glb : FnOk P w K mg base CX0 1 f4 fd4 ["_law_one", "_law_other"] sp_lbox)
    (Dbr : Df K mg "_law_boxed_right" s_boxed ["_law_pot_here"] f5 fd5) (Gbr : FnG P w K mg base 9 f5 fd5 ["_law_pot_here"] sp_boxed)
    (Drr : Df K mg "_law_row_right" s_rowr ["_law_pot_here", "_law_numbers"] f6 fd6) (Grr : FnG P w K mg base 9 f6 fd6 ["_law_pot_here", "_law_numbers"] sp_rowr) :
    FnG P w K mg base 10 f fd ["_law_pot_here"] sp_right := by
  refine F.okG sc_right (fun vs H Q E h => ?_) (fun cdv A outer s H vs Q E gd hr h => ?_)
  · obtain ⟨p, D, rfl, _⟩ := h
    rfl
  · obtain ⟨p, D, rfl, wd, q⟩ := h
    have hu := hr.units
    have r1 : Room 1 _ := hr.mono (by decide)
    have r2 : Room 2 _ := hr.mono (by decide)
    refine ⟨_, pss_cons (ps_for PassesOwn.never rfl (pi_range1 (by rfl) B.range (pa_cons pe_int pa_nil)) (pg_name (i := 1) sc_right.nd rfl (Or.inl rfl)) (pss_one (ps_if (PW.pt (pw_or (pt_not (pt_val (pe_callG (E := E0) Gbr gd hr (by rfl) Dbr.g Dbr.F.kp Dbr.b .nil (pa_cons (pv 0) pa_nil)))) (pw_or1 (pt_not (pt_val (pe_callG (E := E0) Grr gd hr (by rfl) Drr.g Drr.F.kp Drr.b .nil (pa_cons (pv 0) (pa_cons (pdf Dlrow Glrow r2 (pa_cons (pv 0) (pa_cons pe_int pa_nil))) pa_nil)))))))) (pss_one (ps_ret pe_bl)) pss_nil)))
      (pss_cons (ps_asg (pdf Dpick Gpick r2 (pa_cons (pv 0) (pa_cons (pe_call0 (E := E0) Gsd r1 (by rfl) Dsd.g Dsd.F.kp Dsd.b .nil pass0) pa_nil))) (pg_tup rfl (pgs_cons (pg_name (i := 2) sc_right.nd rfl (Or.inl rfl)) (pgs_cons (pg_name (i := 3) sc_right.nd rfl (Or.inl rfl)) pgs_nil))))
      (pss_cons (ps_set (i := 4) sc_right.nd rfl (Or.inl rfl) (pdf Dlb Glb r1 (pa_cons (pv 2) (pa_cons (pv 3) pa_nil))))
      (pss_one (ps_ret (pe_and (pe_callG (E := E0) Grr gd hr (by rfl) Drr.g Drr.F.kp Drr.b .nil (pa_cons (pv 0) (pa_cons (pv 4) pa_nil))) (pe_one (pe_callG (E := E0) Grr gd hr (by rfl) Drr.g Drr.F.kp Drr.b .nil (pa_cons (pv 0) (pa_cons (pe_ifExp (pt_cmpR op_gt (pe_callB call_len_seq (by rfl) B.len PySem.boot_len (pa_cons (pv 4) pa_nil)) pe_int (nomark _)) (pe_slice sl_list (pv 4) po_none (po_some (pe_un un_neg pe_int))) (pv 4)) pa_nil))))))))), ?_⟩
    refine ⟨3, rfl, by decide, by decide, for_range (n := 3) (fun i σ H' => ∃ y1, σ = [some (.ref p), y1, none, none, none] ∧ Wd p D H') ⟨none, rfl, wd⟩ ?_ ?_⟩
    · rintro i σ H1 hi ⟨y1, rfl, w1⟩
      refine ⟨_, rfl, p, D, rfl, w1, fun H2 w2 => ⟨true, rfl, iteF ?_⟩⟩
      refine ⟨_, rfl, _, rfl, p, D, rfl, w2, fun v D3 H3 s3 w3 hv => ?_⟩
      obtain ⟨L, ns, rfl, hL, ne, hf⟩ := hv
      exact ⟨p, L, D3, ns, rfl, w3, hL, ne, (row_iff ns).mpr hf, fun H4 w4 => ⟨true, rfl, iteF ⟨_, rfl, w4.weak s3⟩⟩⟩
    · rintro σ H1 ⟨y1, rfl, w1⟩
      refine ⟨_, rfl, rfl, fun H2 LS us s2 hLS0 hLS ps => ?_⟩
      obtain ⟨D2, w2, sD2, hLSD, psD⟩ := sides_new w1 s2 hLS hLS0 ps
      have ul : us.length = sidesI.length := ps.1
      have sl : 1 ≤ sidesI.length ∧ sidesI.length ≤ 90 := by decide +kernel
      refine ⟨p, LS, D2, us, rfl, w2, hLSD, by omega, by omega, fun H3 v i w3 hv => ?_⟩
      have hi : i < sidesI.length := by
        have := (List.getElem?_eq_some_iff.mp hv).1
        omega
      have hab : sidesI[i]? = some sidesI[i] := List.getElem?_eq_getElem hi
      have hin : sidesI[i] ∈ sidesI := List.getElem_mem hi
      obtain ⟨t, ht, htu⟩ := psD.2 i _ hab
      rw [hv] at ht
      cases ht
      revert hin htu
      generalize sidesI[i] = ab
      obtain ⟨a, b⟩ := ab
      intro hin htu
      have sP := side_ok hin
      have cut := List.all_eq_true.mp cut_all _ hin
      have a1 := sP.a1
      have b1 := sP.b1
      have s10 := sP.s10
      refine ⟨t, _, rfl, SqT.mk (w3.s _ _ htu), rfl, _, _, rfl, _, _, rfl, rfl, ?_⟩
      refine ⟨_, rfl, _, rfl, a, b, rfl, a1, b1, by omega, by omega, fun H4 L s4 hL0 hL => ?_⟩
      have rI := (row_iff _).mpr sP.fn
      have rne : boxI a b ≠ [] := fun e => by
        have := sP.len
        rw [e] at this
        have : 0 = a + b - 1 := this
        omega
      clear sP
      revert hL rI rne cut
      dsimp only
      generalize boxI a b = ns
      intro cut hL rI rne
      obtain ⟨w5, s5, h5⟩ := w3.new s4 hL0 hL
      refine ⟨_, rfl, _, rfl, p, L, _, ns, rfl, w5, h5, rne, rI, fun H6 w6 => ⟨_, rfl, iteT ?_⟩⟩
      have hL6 := w6.s _ _ h5
      have r9 := rI.len
      have fin : ∀ H', Wd p (upd D2 L (.lst (ns.map V.int))) H' → Q (.bl true) H' := fun H' w' => q _ ((w'.weak s5).weak sD2)
      refine ⟨_, rfl, _, rfl, L, _, rfl, .inl (SqL.mk hL6), _, _, rfl, rfl, _, rfl, ?_⟩
      rw [List.length_map]
      by_cases c : (1 : Int) < ((ns.length : Nat) : Int)
      · rw [decide_eq_true c]
        refine iteT ⟨_, rfl, _, rfl, _, rfl, L, _, rfl, SqL.mk hL6, fun M hM => ?_⟩
        obtain ⟨ys, y, rfl⟩ := (snoc_cases ns).resolve_left rne
        have ec : cutV ((ys ++ [y]).map V.int) none (some (-1)) = ys.map V.int := by rw [List.map_append]; exact cut_neg1 _ _
        rw [ec]
        have hf : ff ys = none := by
          rw [List.dropLast_concat, decide_eq_false (by omega), Bool.false_or] at cut
          exact Option.isNone_iff_eq_none.mp cut
        have yne : ys ≠ [] := fun e => by
          rw [e] at c
          have c : (1 : Int) < ((1 : Nat) : Int) := c
          omega
        obtain ⟨w7, s7, h7⟩ := w6.new (same_new (o := .lst (ys.map V.int)) hM) hM upd_same
        exact ⟨p, M, _, ys, rfl, w7, h7, yne, (row_iff ys).mpr hf, fun H8 w8 => fin _ (w8.weak s7)⟩
      · rw [decide_eq_false c]
        exact iteF ⟨_, rfl, p, L, _, ns, rfl, w6, h5, rne, rI, fun H7 w7 => fin _ w7⟩
/-! law -/
def sp_law (K : PySem.W.Frag) : Sp := fun vs H Q _ => ∃ (l : Addr) (ns : List Int), vs = [.ref l] ∧ SqL K H l (ns.map V.int) ∧ ns.length ≤ 63 ∧ ∀ H', Q (.bl true) H'
theorem sc_law : FnScope ["_law_script", "_law_k"] ["_law_script"] (defScope s_law) := ⟨rfl, rfl, rfl, by decide +kernel, rfl, by decide +kernel, by decide +kernel⟩
theorem ok_law {f f1 f2 : Addr} {fd fd1 fd2 : FuncData} (F : Fun K "law" "law" s_law f fd) (B : Blt mg) (D1 : Df K mg "_law_pot" s_pot ["_law_script", "_law_k"] f1 fd1) (D2 : Df K mg "_law_right" s_right ["_law_pot_here"] f2 fd2) (G2 : FnG P w K mg base 10 f2 fd2 ["_law_pot_here"] sp_right) : FnG P w K mg base 11 f fd ["_law_script"] (sp_law K) := by
  have G1 : FnOk P w K mg base CX0 1 f1 fd1 ["_law_script", "_law_k"] (sp_pot K) := ok_pot D1.F B
  refine F.okG sc_law (fun vs H Q E h => ?_) (fun cdv A outer s H vs Q E gd hr h => ?_)
  · obtain ⟨l, ns, rfl, _⟩ := h
    rfl
  · obtain ⟨l, ns, rfl, hs, hn, q⟩ := h
    have r1 : Room 1 _ := hr.mono (by decide)
    refine ⟨_, pss_one (ps_ret (pe_callB (cr_all rfl) (by rfl) B.all boot_all (pa_cons (pe_lc (own := [("_law_k", 1)]) (g := gName 1) (tt := tYes) rfl sc_law.nd
      (pi_range1 (by rfl) B.range (pa_cons (pe_callB (call_max2 rfl) (by rfl) B.max boot_max (pa_cons pe_int (pa_cons (pe_callB (call_min2 rfl) (by rfl) B.min boot_min (pa_cons pe_int (pa_cons (pe_callB call_len_seq (by rfl) B.len PySem.boot_len (pa_cons (pv 0) pa_nil)) pa_nil))) pa_nil))) pa_nil))
      (blkOk_by (N := ["_law_script", "_law_k"]) (sc := defScope s_law) (by decide +kernel)) (fun _ _ _ _ _ => pg_name (i := 1) sc_law.nd rfl (Or.inl rfl)) (fun _ _ _ _ _ => pts_nil)
      (fun _ _ _ _ _ => pe_callG (E := E0) G2 gd hr (by rfl) D2.g D2.F.kp D2.b .nil (pa_cons (pdf D1 G1 r1 (pa_cons (pv 0) (pa_cons (pv 1) pa_nil))) pa_nil))) pa_nil))), ?_⟩
    refine ⟨_, rfl, l, _, rfl, .inl hs, 3, _, rfl, 1, _, rfl, ?_⟩
    have nb : (0 : Int) ≤ (if (if (((ns.map V.int).length : Nat) : Int) < 3 then (((ns.map V.int).length : Nat) : Int) else 3) > 1 then (if (((ns.map V.int).length : Nat) : Int) < 3 then (((ns.map V.int).length : Nat) : Int) else 3) else 1) ∧
        (if (if (((ns.map V.int).length : Nat) : Int) < 3 then (((ns.map V.int).length : Nat) : Int) else 3) > 1 then (if (((ns.map V.int).length : Nat) : Int) < 3 then (((ns.map V.int).length : Nat) : Int) else 3) else 1) ≤ 3 := by
      split <;> split <;> omega
    revert nb
    generalize (if (if (((ns.map V.int).length : Nat) : Int) < 3 then (((ns.map V.int).length : Nat) : Int) else 3) > 1 then (if (((ns.map V.int).length : Nat) : Int) < 3 then (((ns.map V.int).length : Nat) : Int) else 3) else 1) = m
    rintro ⟨m0, m2⟩
    refine ⟨m, rfl, by omega, by omega, fun L hL => ?_⟩
    refine lc_range (n := m.toNat) (fun i H1 => Same H H1 ∧ H1 L = some (.lst ((List.replicate i true).map V.bl))) ⟨same_new hL, upd_same⟩ ?_ ?_
    · rintro i H1 hi ⟨s1, h1⟩
      refine ⟨rfl, yes_ite ?_⟩
      refine ⟨_, rfl, _, rfl, l, ns, i, (by rw [Int.zero_add]; rfl), s1.seq hs, hn, by omega, fun H2 p D s2 sD w2 => ?_⟩
      refine ⟨p, D, rfl, w2, fun H3 w3 => ?_⟩
      refine ⟨_, w3.s _ _ (sD _ _ h1), ?_, (s1.trans (sD.trans w3.s)).put hL, ?_⟩
      · rw [List.length_map, List.length_replicate]
        exact Nat.lt_of_lt_of_le (show i < 3 by omega) (by decide)
      · rw [upd_same, List.replicate_succ', List.map_append]
        rfl
    · rintro H1 ⟨s1, h1⟩
      refine ⟨L, List.replicate m.toNat true, rfl, SqL.mk h1, ?_⟩
      have e : (List.replicate m.toNat true).all id = true := by
        rw [List.all_eq_true]
        intro x hx
        rw [(List.mem_replicate.mp hx).2]
        rfl
      rw [e]
      exact q _
end
end G0

namespace G0
open PySem PySem.Spec PyProof.Rows L2
/-! ### what the top has written; the head -/
theorem all_mk {l : PySem.W.OpenLaw} {w : World} {K : PySem.W.Frag} {h : Heap} {mg : Str → Option Value} {fa f_isint f_iscount f_islist f_isrow f_iscounts f_first f_chk f_mirr f_ismirr f_box f_side f_boxof f_divisor f_plain f_isthree f_ispoint f_tp f_stair f_lens f_pot f_draw f_pick f_lrow f_passed f_lbox f_sides f_boxed f_rowr f_right f_law C_S f_init f_pts : Addr} (X : K.In h) (G : h.Ns mainGlobals mg) (hfa : mg "law" = some (.ref fa))
    {od_isint an_isint : Option Addr} {sl_isint : Array (Option Value)} {oc_isint kV_isint dc_isint pm_isint cd_isint ct_isint : Value}
    {od_iscount an_iscount : Option Addr} {sl_iscount : Array (Option Value)} {oc_iscount kV_iscount dc_iscount pm_iscount cd_iscount ct_iscount : Value}
    {od_islist an_islist : Option Addr} {sl_islist : Array (Option Value)} {oc_islist kV_islist dc_islist pm_islist cd_islist ct_islist : Value}
    {od_isrow an_isrow : Option Addr} {sl_isrow : Array (Option Value)} {oc_isrow kV_isrow dc_isrow pm_isrow cd_isrow ct_isrow : Value}
    {od_iscounts an_iscounts : Option Addr} {sl_iscounts : Array (Option Value)} {oc_iscounts kV_iscounts dc_iscounts pm_iscounts cd_iscounts ct_iscounts : Value}
    {od_first an_first : Option Addr} {sl_first : Array (Option Value)} {oc_first kV_first dc_first pm_first cd_first ct_first : Value}
    {od_chk an_chk : Option Addr} {sl_chk : Array (Option Value)} {oc_chk kV_chk dc_chk pm_chk cd_chk ct_chk : Value}
    {od_mirr an_mirr : Option Addr} {sl_mirr : Array (Option Value)} {oc_mirr kV_mirr dc_mirr pm_mirr cd_mirr ct_mirr : Value}
    {od_ismirr an_ismirr : Option Addr} {sl_ismirr : Array (Option Value)} {oc_ismirr kV_ismirr dc_ismirr pm_ismirr cd_ismirr ct_ismirr : Value}
    {od_box an_box : Option Addr} {sl_box : Array (Option Value)} {oc_box kV_box dc_box pm_box cd_box ct_box : Value}
    {od_side an_side : Option Addr} {sl_side : Array (Option Value)} {oc_side kV_side dc_side pm_side cd_side ct_side : Value}
    {od_boxof an_boxof : Option Addr} {sl_boxof : Array (Option Value)} {oc_boxof kV_boxof dc_boxof pm_boxof cd_boxof ct_boxof : Value}
    {od_divisor an_divisor : Option Addr} {sl_divisor : Array (Option Value)} {oc_divisor kV_divisor dc_divisor pm_divisor cd_divisor ct_divisor : Value}
    {od_plain an_plain : Option Addr} {sl_plain : Array (Option Value)} {oc_plain kV_plain dc_plain pm_plain cd_plain ct_plain : Value}
    {od_isthree an_isthree : Option Addr} {sl_isthree : Array (Option Value)} {oc_isthree kV_isthree dc_isthree pm_isthree cd_isthree ct_isthree : Value}
    {od_ispoint an_ispoint : Option Addr} {sl_ispoint : Array (Option Value)} {oc_ispoint kV_ispoint dc_ispoint pm_ispoint cd_ispoint ct_ispoint : Value}
    {od_tp an_tp : Option Addr} {sl_tp : Array (Option Value)} {oc_tp kV_tp dc_tp pm_tp cd_tp ct_tp : Value}
    {od_stair an_stair : Option Addr} {sl_stair : Array (Option Value)} {oc_stair kV_stair dc_stair pm_stair cd_stair ct_stair : Value}
    {od_lens an_lens : Option Addr} {sl_lens : Array (Option Value)} {oc_lens kV_lens dc_lens pm_lens cd_lens ct_lens : Value}
    {od_pot an_pot : Option Addr} {sl_pot : Array (Option Value)} {oc_pot kV_pot dc_pot pm_pot cd_pot ct_pot : Value}
    {od_draw an_draw : Option Addr} {sl_draw : Array (Option Value)} {oc_draw kV_draw dc_draw pm_draw cd_draw ct_draw : Value}
    {od_pick an_pick : Option Addr} {sl_pick : Array (Option Value)} {oc_pick kV_pick dc_pick pm_pick cd_pick ct_pick : Value}
    {od_lrow an_lrow : Option Addr} {sl_lrow : Array (Option Value)} {oc_lrow kV_lrow dc_lrow pm_lrow cd_lrow ct_lrow : Value}
    {od_passed an_passed : Option Addr} {sl_passed : Array (Option Value)} {oc_passed kV_passed dc_passed pm_passed cd_passed ct_passed : Value}
    {od_lbox an_lbox : Option Addr} {sl_lbox : Array (Option Value)} {oc_lbox kV_lbox dc_lbox pm_lbox cd_lbox ct_lbox : Value}
    {od_sides an_sides : Option Addr} {sl_sides : Array (Option Value)} {oc_sides kV_sides dc_sides pm_sides cd_sides ct_sides : Value}
    {od_boxed an_boxed : Option Addr} {sl_boxed : Array (Option Value)} {oc_boxed kV_boxed dc_boxed pm_boxed cd_boxed ct_boxed : Value}
    {od_rowr an_rowr : Option Addr} {sl_rowr : Array (Option Value)} {oc_rowr kV_rowr dc_rowr pm_rowr cd_rowr ct_rowr : Value}
    {od_right an_right : Option Addr} {sl_right : Array (Option Value)} {oc_right kV_right dc_right pm_right cd_right ct_right : Value}
    {od_law an_law : Option Addr} {sl_law : Array (Option Value)} {oc_law kV_law dc_law pm_law cd_law ct_law : Value}
    {od_init an_init : Option Addr} {sl_init : Array (Option Value)} {oc_init kV_init dc_init pm_init cd_init ct_init : Value}
    {od_pts an_pts : Option Addr} {sl_pts : Array (Option Value)} {oc_pts kV_pts dc_pts pm_pts cd_pts ct_pts : Value}
    {t9 : Tok}
    {t24 : Tok}
    {t25 : Tok}
    (a_isint : PySem.W.nsIn K mainGlobals "is_integer" = some (some (.ref f_isint)))
    (l_isint : K.lookup f_isint = some ⟨oc_isint, od_isint, .func (PySem.W.fnOf "is_integer" "is_integer" (defArgs s_is_integer) (defBody s_is_integer) (defScope s_is_integer) .none kV_isint dc_isint pm_isint an_isint cd_isint ct_isint), sl_isint⟩) (c_isint : PySem.W.codeIn K cd_isint "is_integer" = true) (k_isint : PySem.W.keepIn K (.ref f_isint) = true)
    (a_iscount : PySem.W.nsIn K mainGlobals "is_count" = some (some (.ref f_iscount)))
    (l_iscount : K.lookup f_iscount = some ⟨oc_iscount, od_iscount, .func (PySem.W.fnOf "is_count" "is_count" (defArgs s_is_count) (defBody s_is_count) (defScope s_is_count) .none kV_iscount dc_iscount pm_iscount an_iscount cd_iscount ct_iscount), sl_iscount⟩) (c_iscount : PySem.W.codeIn K cd_iscount "is_count" = true) (k_iscount : PySem.W.keepIn K (.ref f_iscount) = true)
    (a_islist : PySem.W.nsIn K mainGlobals "is_list" = some (some (.ref f_islist)))
    (l_islist : K.lookup f_islist = some ⟨oc_islist, od_islist, .func (PySem.W.fnOf "is_list" "is_list" (defArgs s_is_list) (defBody s_is_list) (defScope s_is_list) .none kV_islist dc_islist pm_islist an_islist cd_islist ct_islist), sl_islist⟩) (c_islist : PySem.W.codeIn K cd_islist "is_list" = true) (k_islist : PySem.W.keepIn K (.ref f_islist) = true)
    (a_isrow : PySem.W.nsIn K mainGlobals "is_row" = some (some (.ref f_isrow)))
    (l_isrow : K.lookup f_isrow = some ⟨oc_isrow, od_isrow, .func (PySem.W.fnOf "is_row" "is_row" (defArgs s_is_row) (defBody s_is_row) (defScope s_is_row) .none kV_isrow dc_isrow pm_isrow an_isrow cd_isrow ct_isrow), sl_isrow⟩) (c_isrow : PySem.W.codeIn K cd_isrow "is_row" = true) (k_isrow : PySem.W.keepIn K (.ref f_isrow) = true)
    (a_iscounts : PySem.W.nsIn K mainGlobals "is_counts" = some (some (.ref f_iscounts)))
    (l_iscounts : K.lookup f_iscounts = some ⟨oc_iscounts, od_iscounts, .func (PySem.W.fnOf "is_counts" "is_counts" (defArgs s_is_counts) (defBody s_is_counts) (defScope s_is_counts) .none kV_iscounts dc_iscounts pm_iscounts an_iscounts cd_iscounts ct_iscounts), sl_iscounts⟩) (c_iscounts : PySem.W.codeIn K cd_iscounts "is_counts" = true) (k_iscounts : PySem.W.keepIn K (.ref f_iscounts) = true)
    (a_first : PySem.W.nsIn K mainGlobals "first_fault" = some (some (.ref f_first)))
    (l_first : K.lookup f_first = some ⟨oc_first, od_first, .func (PySem.W.fnOf "first_fault" "first_fault" (defArgs s_first_fault) (defBody s_first_fault) (defScope s_first_fault) .none kV_first dc_first pm_first an_first cd_first ct_first), sl_first⟩) (c_first : PySem.W.codeIn K cd_first "first_fault" = true) (k_first : PySem.W.keepIn K (.ref f_first) = true)
    (a_chk : PySem.W.nsIn K mainGlobals "check_row" = some (some (.ref f_chk)))
    (l_chk : K.lookup f_chk = some ⟨oc_chk, od_chk, .func (PySem.W.fnOf "check_row" "check_row" (defArgs s_check_row) (defBody s_check_row) (defScope s_check_row) .none kV_chk dc_chk pm_chk an_chk cd_chk ct_chk), sl_chk⟩) (c_chk : PySem.W.codeIn K cd_chk "check_row" = true) (k_chk : PySem.W.keepIn K (.ref f_chk) = true)
    (a_mirr : PySem.W.nsIn K mainGlobals "mirrored" = some (some (.ref f_mirr)))
    (l_mirr : K.lookup f_mirr = some ⟨oc_mirr, od_mirr, .func (PySem.W.fnOf "mirrored" "mirrored" (defArgs s_mirrored) (defBody s_mirrored) (defScope s_mirrored) .none kV_mirr dc_mirr pm_mirr an_mirr cd_mirr ct_mirr), sl_mirr⟩) (c_mirr : PySem.W.codeIn K cd_mirr "mirrored" = true) (k_mirr : PySem.W.keepIn K (.ref f_mirr) = true)
    (a_ismirr : PySem.W.nsIn K mainGlobals "is_mirrored" = some (some (.ref f_ismirr)))
    (l_ismirr : K.lookup f_ismirr = some ⟨oc_ismirr, od_ismirr, .func (PySem.W.fnOf "is_mirrored" "is_mirrored" (defArgs s_is_mirrored) (defBody s_is_mirrored) (defScope s_is_mirrored) .none kV_ismirr dc_ismirr pm_ismirr an_ismirr cd_ismirr ct_ismirr), sl_ismirr⟩) (c_ismirr : PySem.W.codeIn K cd_ismirr "is_mirrored" = true) (k_ismirr : PySem.W.keepIn K (.ref f_ismirr) = true)
    (a_box : PySem.W.nsIn K mainGlobals "box" = some (some (.ref f_box)))
    (l_box : K.lookup f_box = some ⟨oc_box, od_box, .func (PySem.W.fnOf "box" "box" (defArgs s_box) (defBody s_box) (defScope s_box) .none kV_box dc_box pm_box an_box cd_box ct_box), sl_box⟩) (c_box : PySem.W.codeIn K cd_box "box" = true) (k_box : PySem.W.keepIn K (.ref f_box) = true)
    (a_side : PySem.W.nsIn K mainGlobals "check_side" = some (some (.ref f_side)))
    (l_side : K.lookup f_side = some ⟨oc_side, od_side, .func (PySem.W.fnOf "check_side" "check_side" (defArgs s_check_side) (defBody s_check_side) (defScope s_check_side) .none kV_side dc_side pm_side an_side cd_side ct_side), sl_side⟩) (c_side : PySem.W.codeIn K cd_side "check_side" = true) (k_side : PySem.W.keepIn K (.ref f_side) = true)
    (a_boxof : PySem.W.nsIn K mainGlobals "box_of" = some (some (.ref f_boxof)))
    (l_boxof : K.lookup f_boxof = some ⟨oc_boxof, od_boxof, .func (PySem.W.fnOf "box_of" "box_of" (defArgs s_box_of) (defBody s_box_of) (defScope s_box_of) .none kV_boxof dc_boxof pm_boxof an_boxof cd_boxof ct_boxof), sl_boxof⟩) (c_boxof : PySem.W.codeIn K cd_boxof "box_of" = true) (k_boxof : PySem.W.keepIn K (.ref f_boxof) = true)
    (a_divisor : PySem.W.nsIn K mainGlobals "divisor" = some (some (.ref f_divisor)))
    (l_divisor : K.lookup f_divisor = some ⟨oc_divisor, od_divisor, .func (PySem.W.fnOf "divisor" "divisor" (defArgs s_divisor) (defBody s_divisor) (defScope s_divisor) .none kV_divisor dc_divisor pm_divisor an_divisor cd_divisor ct_divisor), sl_divisor⟩) (c_divisor : PySem.W.codeIn K cd_divisor "divisor" = true) (k_divisor : PySem.W.keepIn K (.ref f_divisor) = true)
    (a_plain : PySem.W.nsIn K mainGlobals "plain" = some (some (.ref f_plain)))
    (l_plain : K.lookup f_plain = some ⟨oc_plain, od_plain, .func (PySem.W.fnOf "plain" "plain" (defArgs s_plain) (defBody s_plain) (defScope s_plain) .none kV_plain dc_plain pm_plain an_plain cd_plain ct_plain), sl_plain⟩) (c_plain : PySem.W.codeIn K cd_plain "plain" = true) (k_plain : PySem.W.keepIn K (.ref f_plain) = true)
    (a_isthree : PySem.W.nsIn K mainGlobals "is_three" = some (some (.ref f_isthree)))
    (l_isthree : K.lookup f_isthree = some ⟨oc_isthree, od_isthree, .func (PySem.W.fnOf "is_three" "is_three" (defArgs s_is_three) (defBody s_is_three) (defScope s_is_three) .none kV_isthree dc_isthree pm_isthree an_isthree cd_isthree ct_isthree), sl_isthree⟩) (c_isthree : PySem.W.codeIn K cd_isthree "is_three" = true) (k_isthree : PySem.W.keepIn K (.ref f_isthree) = true)
    (a_ispoint : PySem.W.nsIn K mainGlobals "is_point" = some (some (.ref f_ispoint)))
    (l_ispoint : K.lookup f_ispoint = some ⟨oc_ispoint, od_ispoint, .func (PySem.W.fnOf "is_point" "is_point" (defArgs s_is_point) (defBody s_is_point) (defScope s_is_point) .none kV_ispoint dc_ispoint pm_ispoint an_ispoint cd_ispoint ct_ispoint), sl_ispoint⟩) (c_ispoint : PySem.W.codeIn K cd_ispoint "is_point" = true) (k_ispoint : PySem.W.keepIn K (.ref f_ispoint) = true)
    (a_tp : PySem.W.nsIn K mainGlobals "told_point" = some (some (.ref f_tp)))
    (l_tp : K.lookup f_tp = some ⟨oc_tp, od_tp, .func (PySem.W.fnOf "told_point" "told_point" (defArgs s_told_point) (defBody s_told_point) (defScope s_told_point) .none kV_tp dc_tp pm_tp an_tp cd_tp ct_tp), sl_tp⟩) (c_tp : PySem.W.codeIn K cd_tp "told_point" = true) (k_tp : PySem.W.keepIn K (.ref f_tp) = true)
    (a_stair : PySem.W.nsIn K mainGlobals "stair" = some (some (.ref f_stair)))
    (l_stair : K.lookup f_stair = some ⟨oc_stair, od_stair, .func (PySem.W.fnOf "stair" "stair" (defArgs s_stair) (defBody s_stair) (defScope s_stair) .none kV_stair dc_stair pm_stair an_stair cd_stair ct_stair), sl_stair⟩) (c_stair : PySem.W.codeIn K cd_stair "stair" = true) (k_stair : PySem.W.keepIn K (.ref f_stair) = true)
    (a_lens : PySem.W.nsIn K mainGlobals "lengths" = some (some (.ref f_lens)))
    (l_lens : K.lookup f_lens = some ⟨oc_lens, od_lens, .func (PySem.W.fnOf "lengths" "lengths" (defArgs s_lengths) (defBody s_lengths) (defScope s_lengths) .none kV_lens dc_lens pm_lens an_lens cd_lens ct_lens), sl_lens⟩) (c_lens : PySem.W.codeIn K cd_lens "lengths" = true) (k_lens : PySem.W.keepIn K (.ref f_lens) = true)
    (a_pot : PySem.W.nsIn K mainGlobals "_law_pot" = some (some (.ref f_pot)))
    (l_pot : K.lookup f_pot = some ⟨oc_pot, od_pot, .func (PySem.W.fnOf "_law_pot" "_law_pot" (defArgs s_pot) (defBody s_pot) (defScope s_pot) .none kV_pot dc_pot pm_pot an_pot cd_pot ct_pot), sl_pot⟩) (c_pot : PySem.W.codeIn K cd_pot "_law_pot" = true) (k_pot : PySem.W.keepIn K (.ref f_pot) = true)
    (a_draw : PySem.W.nsIn K mainGlobals "_law_draw" = some (some (.ref f_draw)))
    (l_draw : K.lookup f_draw = some ⟨oc_draw, od_draw, .func (PySem.W.fnOf "_law_draw" "_law_draw" (defArgs s_draw) (defBody s_draw) (defScope s_draw) .none kV_draw dc_draw pm_draw an_draw cd_draw ct_draw), sl_draw⟩) (c_draw : PySem.W.codeIn K cd_draw "_law_draw" = true) (k_draw : PySem.W.keepIn K (.ref f_draw) = true)
    (a_pick : PySem.W.nsIn K mainGlobals "_law_pick" = some (some (.ref f_pick)))
    (l_pick : K.lookup f_pick = some ⟨oc_pick, od_pick, .func (PySem.W.fnOf "_law_pick" "_law_pick" (defArgs s_pick) (defBody s_pick) (defScope s_pick) .none kV_pick dc_pick pm_pick an_pick cd_pick ct_pick), sl_pick⟩) (c_pick : PySem.W.codeIn K cd_pick "_law_pick" = true) (k_pick : PySem.W.keepIn K (.ref f_pick) = true)
    (a_lrow : PySem.W.nsIn K mainGlobals "_law_row" = some (some (.ref f_lrow)))
    (l_lrow : K.lookup f_lrow = some ⟨oc_lrow, od_lrow, .func (PySem.W.fnOf "_law_row" "_law_row" (defArgs s_lrow) (defBody s_lrow) (defScope s_lrow) .none kV_lrow dc_lrow pm_lrow an_lrow cd_lrow ct_lrow), sl_lrow⟩) (c_lrow : PySem.W.codeIn K cd_lrow "_law_row" = true) (k_lrow : PySem.W.keepIn K (.ref f_lrow) = true)
    (a_passed : PySem.W.nsIn K mainGlobals "_law_passed" = some (some (.ref f_passed)))
    (l_passed : K.lookup f_passed = some ⟨oc_passed, od_passed, .func (PySem.W.fnOf "_law_passed" "_law_passed" (defArgs s_passed) (defBody s_passed) (defScope s_passed) .none kV_passed dc_passed pm_passed an_passed cd_passed ct_passed), sl_passed⟩) (c_passed : PySem.W.codeIn K cd_passed "_law_passed" = true) (k_passed : PySem.W.keepIn K (.ref f_passed) = true)
    (a_lbox : PySem.W.nsIn K mainGlobals "_law_box" = some (some (.ref f_lbox)))
    (l_lbox : K.lookup f_lbox = some ⟨oc_lbox, od_lbox, .func (PySem.W.fnOf "_law_box" "_law_box" (defArgs s_lbox) (defBody s_lbox) (defScope s_lbox) .none kV_lbox dc_lbox pm_lbox an_lbox cd_lbox ct_lbox), sl_lbox⟩) (c_lbox : PySem.W.codeIn K cd_lbox "_law_box" = true) (k_lbox : PySem.W.keepIn K (.ref f_lbox) = true)
    (a_sides : PySem.W.nsIn K mainGlobals "_law_sides" = some (some (.ref f_sides)))
    (l_sides : K.lookup f_sides = some ⟨oc_sides, od_sides, .func (PySem.W.fnOf "_law_sides" "_law_sides" (defArgs s_sides) (defBody s_sides) (defScope s_sides) .none kV_sides dc_sides pm_sides an_sides cd_sides ct_sides), sl_sides⟩) (c_sides : PySem.W.codeIn K cd_sides "_law_sides" = true) (k_sides : PySem.W.keepIn K (.ref f_sides) = true)
    (a_boxed : PySem.W.nsIn K mainGlobals "_law_boxed_right" = some (some (.ref f_boxed)))
    (l_boxed : K.lookup f_boxed = some ⟨oc_boxed, od_boxed, .func (PySem.W.fnOf "_law_boxed_right" "_law_boxed_right" (defArgs s_boxed) (defBody s_boxed) (defScope s_boxed) .none kV_boxed dc_boxed pm_boxed an_boxed cd_boxed ct_boxed), sl_boxed⟩) (c_boxed : PySem.W.codeIn K cd_boxed "_law_boxed_right" = true) (k_boxed : PySem.W.keepIn K (.ref f_boxed) = true)
    (a_rowr : PySem.W.nsIn K mainGlobals "_law_row_right" = some (some (.ref f_rowr)))
    (l_rowr : K.lookup f_rowr = some ⟨oc_rowr, od_rowr, .func (PySem.W.fnOf "_law_row_right" "_law_row_right" (defArgs s_rowr) (defBody s_rowr) (defScope s_rowr) .none kV_rowr dc_rowr pm_rowr an_rowr cd_rowr ct_rowr), sl_rowr⟩) (c_rowr : PySem.W.codeIn K cd_rowr "_law_row_right" = true) (k_rowr : PySem.W.keepIn K (.ref f_rowr) = true)
    (a_right : PySem.W.nsIn K mainGlobals "_law_right" = some (some (.ref f_right)))
    (l_right : K.lookup f_right = some ⟨oc_right, od_right, .func (PySem.W.fnOf "_law_right" "_law_right" (defArgs s_right) (defBody s_right) (defScope s_right) .none kV_right dc_right pm_right an_right cd_right ct_right), sl_right⟩) (c_right : PySem.W.codeIn K cd_right "_law_right" = true) (k_right : PySem.W.keepIn K (.ref f_right) = true)
    (a_law : PySem.W.nsIn K mainGlobals "law" = some (some (.ref f_law)))
    (l_law : K.lookup f_law = some ⟨oc_law, od_law, .func (PySem.W.fnOf "law" "law" (defArgs s_law) (defBody s_law) (defScope s_law) .none kV_law dc_law pm_law an_law cd_law ct_law), sl_law⟩) (c_law : PySem.W.codeIn K cd_law "law" = true) (k_law : PySem.W.keepIn K (.ref f_law) = true)
    (a_S : PySem.W.nsIn K mainGlobals "Spots" = some (some (.ref C_S)))
    (a_init : PySem.W.findIn K (.ref C_S) "__init__" = some (some (.ref f_init))) (i_init : PySem.W.isFn K (.ref f_init) = true)
    (l_init : K.lookup f_init = some ⟨oc_init, od_init, .func (PySem.W.fnOf "__init__" "Spots.__init__" (defArgs s_Spots_init) (defBody s_Spots_init) (defScope s_Spots_init) .none kV_init dc_init pm_init an_init cd_init ct_init), sl_init⟩) (c_init : PySem.W.codeIn K cd_init "Spots.__init__" = true) (k_init : PySem.W.keepIn K (.ref f_init) = true)
    (a_pts : PySem.W.findIn K (.ref C_S) "points" = some (some (.ref f_pts))) (i_pts : PySem.W.isFn K (.ref f_pts) = true)
    (l_pts : K.lookup f_pts = some ⟨oc_pts, od_pts, .func (PySem.W.fnOf "points" "Spots.points" (defArgs s_Spots_points) (defBody s_Spots_points) (defScope s_Spots_points) .none kV_pts dc_pts pm_pts an_pts cd_pts ct_pts), sl_pts⟩) (c_pts : PySem.W.codeIn K cd_pts "Spots.points" = true) (k_pts : PySem.W.keepIn K (.ref f_pts) = true)
    (pg_S : PySem.W.plainGet K C_S Str.empty = true) (hd_S : PySem.W.hasDictIn K C_S = true) (po_S : PySem.W.plainOver K C_S = true) (sa_S : PySem.W.findIn K (.ref C_S) "__setattr__" = some (some (.builtin "object.__setattr__"))) (mk_S : PySem.W.makesIn K C_S = true) (kc_S : PySem.W.keepIn K (.ref C_S) = true)
    (n_S_points : PySem.W.findIn K (.ref C_S) "_points" = some none)
    (v_places : PySem.W.nsIn K mainGlobals "MOST_PLACES" = some (some (.int 9 t9)))
    (v_sum : PySem.W.nsIn K mainGlobals "MOST_SUM" = some (some (.int 24 t24)))
    (v_most : PySem.W.nsIn K mainGlobals "MOST_POINTS" = some (some (.int 24 t25)))
    (v_gcd : PySem.W.nsIn K mainGlobals "gcd" = some (some (.builtin "math.gcd")))
    (z_isinstance : PySem.W.nsIn K mainGlobals "isinstance" = some none)
    (z_int : PySem.W.nsIn K mainGlobals "int" = some none)
    (z_bool : PySem.W.nsIn K mainGlobals "bool" = some none)
    (z_list : PySem.W.nsIn K mainGlobals "list" = some none)
    (z_tuple : PySem.W.nsIn K mainGlobals "tuple" = some none)
    (z_len : PySem.W.nsIn K mainGlobals "len" = some none)
    (z_all : PySem.W.nsIn K mainGlobals "all" = some none)
    (z_any : PySem.W.nsIn K mainGlobals "any" = some none)
    (z_abs : PySem.W.nsIn K mainGlobals "abs" = some none)
    (z_max : PySem.W.nsIn K mainGlobals "max" = some none)
    (z_min : PySem.W.nsIn K mainGlobals "min" = some none)
    (z_divmod : PySem.W.nsIn K mainGlobals "divmod" = some none)
    (z_range : PySem.W.nsIn K mainGlobals "range" = some none)
    (z_repr : PySem.W.nsIn K mainGlobals "repr" = some none)
    (z_enumerate : PySem.W.nsIn K mainGlobals "enumerate" = some none)
    (z_sum : PySem.W.nsIn K mainGlobals "sum" = some none)
    (z_sorted : PySem.W.nsIn K mainGlobals "sorted" = some none)
    (z_str : PySem.W.nsIn K mainGlobals "str" = some none)
    (z_dict : PySem.W.nsIn K mainGlobals "dict" = some none) :
    ∃ fd : FuncData, (∀ (s : Shared) (v : Value), BindsTo s fd ⟨[v], []⟩ [("_law_script", v)]) ∧ ∀ base : Heap, K.In base → base.Ns mainGlobals mg → FnG l.prog w K mg base 11 fa fd ["_law_script"] (sp_law K) := by
  have e := hfa.symm.trans (PySem.W.mg_of X G a_law)
  cases e
  have F_isint := fun_mk (st := s_is_integer) l_isint c_isint k_isint
  have b_isint := F_isint.binds (ps := ["value"]) fun _ _ _ _ _ _ us hl => match us, hl with | [_], _ => rfl
  have D_isint : Df K mg "is_integer" s_is_integer ["value"] f_isint _ := ⟨F_isint, PySem.W.mg_of X G a_isint, b_isint⟩
  have F_iscount := fun_mk (st := s_is_count) l_iscount c_iscount k_iscount
  have b_iscount := F_iscount.binds (ps := ["value"]) fun _ _ _ _ _ _ us hl => match us, hl with | [_], _ => rfl
  have D_iscount : Df K mg "is_count" s_is_count ["value"] f_iscount _ := ⟨F_iscount, PySem.W.mg_of X G a_iscount, b_iscount⟩
  have F_islist := fun_mk (st := s_is_list) l_islist c_islist k_islist
  have b_islist := F_islist.binds (ps := ["value"]) fun _ _ _ _ _ _ us hl => match us, hl with | [_], _ => rfl
  have D_islist : Df K mg "is_list" s_is_list ["value"] f_islist _ := ⟨F_islist, PySem.W.mg_of X G a_islist, b_islist⟩
  have F_isrow := fun_mk (st := s_is_row) l_isrow c_isrow k_isrow
  have b_isrow := F_isrow.binds (ps := ["value"]) fun _ _ _ _ _ _ us hl => match us, hl with | [_], _ => rfl
  have D_isrow : Df K mg "is_row" s_is_row ["value"] f_isrow _ := ⟨F_isrow, PySem.W.mg_of X G a_isrow, b_isrow⟩
  have F_iscounts := fun_mk (st := s_is_counts) l_iscounts c_iscounts k_iscounts
  have b_iscounts := F_iscounts.binds (ps := ["value"]) fun _ _ _ _ _ _ us hl => match us, hl with | [_], _ => rfl
  have D_iscounts : Df K mg "is_counts" s_is_counts ["value"] f_iscounts _ := ⟨F_iscounts, PySem.W.mg_of X G a_iscounts, b_iscounts⟩
  have F_first := fun_mk (st := s_first_fault) l_first c_first k_first
  have b_first := F_first.binds (ps := ["counts"]) fun _ _ _ _ _ _ us hl => match us, hl with | [_], _ => rfl
  have D_first : Df K mg "first_fault" s_first_fault ["counts"] f_first _ := ⟨F_first, PySem.W.mg_of X G a_first, b_first⟩
  have F_chk := fun_mk (st := s_check_row) l_chk c_chk k_chk
  have b_chk := F_chk.binds (ps := ["row"]) fun _ _ _ _ _ _ us hl => match us, hl with | [_], _ => rfl
  have D_chk : Df K mg "check_row" s_check_row ["row"] f_chk _ := ⟨F_chk, PySem.W.mg_of X G a_chk, b_chk⟩
  have F_mirr := fun_mk (st := s_mirrored) l_mirr c_mirr k_mirr
  have b_mirr := F_mirr.binds (ps := ["row"]) fun _ _ _ _ _ _ us hl => match us, hl with | [_], _ => rfl
  have D_mirr : Df K mg "mirrored" s_mirrored ["row"] f_mirr _ := ⟨F_mirr, PySem.W.mg_of X G a_mirr, b_mirr⟩
  have F_ismirr := fun_mk (st := s_is_mirrored) l_ismirr c_ismirr k_ismirr
  have b_ismirr := F_ismirr.binds (ps := ["row"]) fun _ _ _ _ _ _ us hl => match us, hl with | [_], _ => rfl
  have D_ismirr : Df K mg "is_mirrored" s_is_mirrored ["row"] f_ismirr _ := ⟨F_ismirr, PySem.W.mg_of X G a_ismirr, b_ismirr⟩
  have F_box := fun_mk (st := s_box) l_box c_box k_box
  have b_box := F_box.binds (ps := ["first", "second"]) fun _ _ _ _ _ _ us hl => match us, hl with | [_, _], _ => rfl
  have D_box : Df K mg "box" s_box ["first", "second"] f_box _ := ⟨F_box, PySem.W.mg_of X G a_box, b_box⟩
  have F_side := fun_mk (st := s_check_side) l_side c_side k_side
  have b_side := F_side.binds (ps := ["many"]) fun _ _ _ _ _ _ us hl => match us, hl with | [_], _ => rfl
  have D_side : Df K mg "check_side" s_check_side ["many"] f_side _ := ⟨F_side, PySem.W.mg_of X G a_side, b_side⟩
  have F_boxof := fun_mk (st := s_box_of) l_boxof c_boxof k_boxof
  have b_boxof := F_boxof.binds (ps := ["row"]) fun _ _ _ _ _ _ us hl => match us, hl with | [_], _ => rfl
  have D_boxof : Df K mg "box_of" s_box_of ["row"] f_boxof _ := ⟨F_boxof, PySem.W.mg_of X G a_boxof, b_boxof⟩
  have F_divisor := fun_mk (st := s_divisor) l_divisor c_divisor k_divisor
  have b_divisor := F_divisor.binds (ps := ["numbers"]) fun _ _ _ _ _ _ us hl => match us, hl with | [_], _ => rfl
  have D_divisor : Df K mg "divisor" s_divisor ["numbers"] f_divisor _ := ⟨F_divisor, PySem.W.mg_of X G a_divisor, b_divisor⟩
  have F_plain := fun_mk (st := s_plain) l_plain c_plain k_plain
  have b_plain := F_plain.binds (ps := ["numbers"]) fun _ _ _ _ _ _ us hl => match us, hl with | [_], _ => rfl
  have D_plain : Df K mg "plain" s_plain ["numbers"] f_plain _ := ⟨F_plain, PySem.W.mg_of X G a_plain, b_plain⟩
  have F_isthree := fun_mk (st := s_is_three) l_isthree c_isthree k_isthree
  have b_isthree := F_isthree.binds (ps := ["value"]) fun _ _ _ _ _ _ us hl => match us, hl with | [_], _ => rfl
  have D_isthree : Df K mg "is_three" s_is_three ["value"] f_isthree _ := ⟨F_isthree, PySem.W.mg_of X G a_isthree, b_isthree⟩
  have F_ispoint := fun_mk (st := s_is_point) l_ispoint c_ispoint k_ispoint
  have b_ispoint := F_ispoint.binds (ps := ["value"]) fun _ _ _ _ _ _ us hl => match us, hl with | [_], _ => rfl
  have D_ispoint : Df K mg "is_point" s_is_point ["value"] f_ispoint _ := ⟨F_ispoint, PySem.W.mg_of X G a_ispoint, b_ispoint⟩
  have F_tp := fun_mk (st := s_told_point) l_tp c_tp k_tp
  have b_tp := F_tp.binds (ps := ["point"]) fun _ _ _ _ _ _ us hl => match us, hl with | [_], _ => rfl
  have D_tp : Df K mg "told_point" s_told_point ["point"] f_tp _ := ⟨F_tp, PySem.W.mg_of X G a_tp, b_tp⟩
  have F_stair := fun_mk (st := s_stair) l_stair c_stair k_stair
  have b_stair := F_stair.binds (ps := ["row"]) fun _ _ _ _ _ _ us hl => match us, hl with | [_], _ => rfl
  have D_stair : Df K mg "stair" s_stair ["row"] f_stair _ := ⟨F_stair, PySem.W.mg_of X G a_stair, b_stair⟩
  have F_lens := fun_mk (st := s_lengths) l_lens c_lens k_lens
  have b_lens := F_lens.binds (ps := ["row"]) fun _ _ _ _ _ _ us hl => match us, hl with | [_], _ => rfl
  have D_lens : Df K mg "lengths" s_lengths ["row"] f_lens _ := ⟨F_lens, PySem.W.mg_of X G a_lens, b_lens⟩
  have F_pot := fun_mk (st := s_pot) l_pot c_pot k_pot
  have b_pot := F_pot.binds (ps := ["_law_script", "_law_k"]) fun _ _ _ _ _ _ us hl => match us, hl with | [_, _], _ => rfl
  have D_pot : Df K mg "_law_pot" s_pot ["_law_script", "_law_k"] f_pot _ := ⟨F_pot, PySem.W.mg_of X G a_pot, b_pot⟩
  have F_draw := fun_mk (st := s_draw) l_draw c_draw k_draw
  have b_draw := F_draw.binds (ps := ["_law_pot_here", "_law_size"]) fun _ _ _ _ _ _ us hl => match us, hl with | [_, _], _ => rfl
  have D_draw : Df K mg "_law_draw" s_draw ["_law_pot_here", "_law_size"] f_draw _ := ⟨F_draw, PySem.W.mg_of X G a_draw, b_draw⟩
  have F_pick := fun_mk (st := s_pick) l_pick c_pick k_pick
  have b_pick := F_pick.binds (ps := ["_law_pot_here", "_law_some"]) fun _ _ _ _ _ _ us hl => match us, hl with | [_, _], _ => rfl
  have D_pick : Df K mg "_law_pick" s_pick ["_law_pot_here", "_law_some"] f_pick _ := ⟨F_pick, PySem.W.mg_of X G a_pick, b_pick⟩
  have F_lrow := fun_mk (st := s_lrow) l_lrow c_lrow k_lrow
  have b_lrow := F_lrow.binds (ps := ["_law_pot_here", "_law_most"]) fun _ _ _ _ _ _ us hl => match us, hl with | [_, _], _ => rfl
  have D_lrow : Df K mg "_law_row" s_lrow ["_law_pot_here", "_law_most"] f_lrow _ := ⟨F_lrow, PySem.W.mg_of X G a_lrow, b_lrow⟩
  have F_passed := fun_mk (st := s_passed) l_passed c_passed k_passed
  have b_passed := F_passed.binds (ps := ["_law_pot_here", "_law_numbers"]) fun _ _ _ _ _ _ us hl => match us, hl with | [_, _], _ => rfl
  have D_passed : Df K mg "_law_passed" s_passed ["_law_pot_here", "_law_numbers"] f_passed _ := ⟨F_passed, PySem.W.mg_of X G a_passed, b_passed⟩
  have F_lbox := fun_mk (st := s_lbox) l_lbox c_lbox k_lbox
  have b_lbox := F_lbox.binds (ps := ["_law_one", "_law_other"]) fun _ _ _ _ _ _ us hl => match us, hl with | [_, _], _ => rfl
  have D_lbox : Df K mg "_law_box" s_lbox ["_law_one", "_law_other"] f_lbox _ := ⟨F_lbox, PySem.W.mg_of X G a_lbox, b_lbox⟩
  have F_sides := fun_mk (st := s_sides) l_sides c_sides k_sides
  have b_sides := F_sides.binds (ps := []) fun _ _ _ _ _ _ us hl => match us, hl with | [], _ => rfl
  have D_sides : Df K mg "_law_sides" s_sides [] f_sides _ := ⟨F_sides, PySem.W.mg_of X G a_sides, b_sides⟩
  have F_boxed := fun_mk (st := s_boxed) l_boxed c_boxed k_boxed
  have b_boxed := F_boxed.binds (ps := ["_law_pot_here"]) fun _ _ _ _ _ _ us hl => match us, hl with | [_], _ => rfl
  have D_boxed : Df K mg "_law_boxed_right" s_boxed ["_law_pot_here"] f_boxed _ := ⟨F_boxed, PySem.W.mg_of X G a_boxed, b_boxed⟩
  have F_rowr := fun_mk (st := s_rowr) l_rowr c_rowr k_rowr
  have b_rowr := F_rowr.binds (ps := ["_law_pot_here", "_law_numbers"]) fun _ _ _ _ _ _ us hl => match us, hl with | [_, _], _ => rfl
  have D_rowr : Df K mg "_law_row_right" s_rowr ["_law_pot_here", "_law_numbers"] f_rowr _ := ⟨F_rowr, PySem.W.mg_of X G a_rowr, b_rowr⟩
  have F_right := fun_mk (st := s_right) l_right c_right k_right
  have b_right := F_right.binds (ps := ["_law_pot_here"]) fun _ _ _ _ _ _ us hl => match us, hl with | [_], _ => rfl
  have D_right : Df K mg "_law_right" s_right ["_law_pot_here"] f_right _ := ⟨F_right, PySem.W.mg_of X G a_right, b_right⟩
  have F_law := fun_mk (st := s_law) l_law c_law k_law
  have F_init := fun_mk (st := s_Spots_init) l_init c_init k_init
  have b_init := F_init.binds (ps := ["self", "points"]) fun _ _ _ _ _ _ us hl => match us, hl with | [_, _], _ => rfl
  have F_pts := fun_mk (st := s_Spots_points) l_pts c_pts k_pts
  have b_pts := F_pts.binds (ps := ["self"]) fun _ _ _ _ _ _ us hl => match us, hl with | [_], _ => rfl
  have B : Blt mg := ⟨PySem.W.mg_none_of X G z_isinstance, PySem.W.mg_none_of X G z_int, PySem.W.mg_none_of X G z_bool, PySem.W.mg_none_of X G z_list, PySem.W.mg_none_of X G z_tuple, PySem.W.mg_none_of X G z_len, PySem.W.mg_none_of X G z_all, PySem.W.mg_none_of X G z_any, PySem.W.mg_none_of X G z_abs, PySem.W.mg_none_of X G z_max, PySem.W.mg_none_of X G z_min, PySem.W.mg_none_of X G z_divmod, PySem.W.mg_none_of X G z_range, PySem.W.mg_none_of X G z_repr, PySem.W.mg_none_of X G z_enumerate, PySem.W.mg_none_of X G z_sum, PySem.W.mg_none_of X G z_sorted, PySem.W.mg_none_of X G z_str, PySem.W.mg_none_of X G z_dict⟩
  have hG := PySem.W.mg_of X G v_gcd
  have m9 := PySem.W.mg_of X G v_places
  have m24 := PySem.W.mg_of X G v_sum
  have S : SpTxt K mg C_S := ⟨⟨pg_S, hd_S, po_S, sa_S⟩, n_S_points, PySem.W.mg_of X G a_S, ⟨_, PySem.W.mg_of X G v_most⟩⟩
  have M : Mk K C_S f_init := ⟨mk_S, a_init, i_init, kc_S⟩
  have mP : Meth K C_S "points" f_pts := ⟨a_pts, i_pts, k_pts⟩
  refine ⟨PySem.W.fnOf "law" "law" (defArgs s_law) (defBody s_law) (defScope s_law) .none kV_law dc_law pm_law an_law cd_law ct_law, fun s v => .of_eq rfl, fun base _ _ => ?_⟩
  · have GD : FnOk l.prog w K mg base CX0 1 f_draw _ ["_law_pot_here", "_law_size"] (sp_draw) := ok_draw F_draw B
    have GI : FnOk l.prog w K mg base CX0 1 f_isint _ ["value"] (sp_intA K) := ok_intA F_isint B
    have GL : FnOk l.prog w K mg base CX0 1 f_islist _ ["value"] (sp_listA K) := ok_listA F_islist B
    have GC : FnOk l.prog w K mg base CX0 2 f_iscount _ ["value"] (sp_cntA K) := ok_cntA F_iscount D_isint GI
    have GCs : FnOk l.prog w K mg base CX0 3 f_iscounts _ ["value"] (sp_countsA K) := ok_countsA F_iscounts B D_islist GL D_iscount GC
    have GF : FnOk l.prog w K mg base CX0 1 f_first _ ["counts"] (sp_first K) := ok_first F_first B m9 m24
    have GR : FnOk l.prog w K mg base CX0 4 f_isrow _ ["value"] (sp_rowA K) := ok_rowA F_isrow D_iscounts GCs D_first GF
    have GCh : FnOk l.prog w K mg base CX0 5 f_chk _ ["row"] (sp_chk K) := ok_chk F_chk D_isrow GR
    have GLe : FnOk l.prog w K mg base CX0 6 f_lens _ ["row"] (sp_lens K) := ok_lens F_lens B D_chk GCh
    have GMi : FnOk l.prog w K mg base CX0 6 f_mirr _ ["row"] (sp_mirr K) := ok_mirr F_mirr B D_chk GCh
    have GIm : FnOk l.prog w K mg base CX0 7 f_ismirr _ ["row"] (sp_ismirr K) := ok_ismirr F_ismirr B D_mirr GMi
    have GSi : FnOk l.prog w K mg base CX0 3 f_side _ ["many"] (sp_side) := ok_side F_side B D_iscount GC
    have GBx : FnOk l.prog w K mg base CX0 4 f_box _ ["first", "second"] (sp_box) := ok_box F_box B m9 m24 D_side GSi
    have GBo : FnOk l.prog w K mg base CX0 8 f_boxof _ ["row"] (sp_boxof K) := ok_boxof F_boxof B D_ismirr GIm
    have GIL : FnOk l.prog w K mg base CX0 1 f_islist _ ["value"] (sp_is_list K) := ok_is_list F_islist B
    have GIP : FnOk l.prog w K mg base CX0 3 f_ispoint _ ["value"] (sp_is_point K) := ok_is_point F_ispoint B D_isthree D_isint D_islist
    have GPl : FnOk l.prog w K mg base CX0 2 f_plain _ ["numbers"] (sp_plain K) := ok_plain F_plain hG D_divisor
    have GTP : FnOk l.prog w K mg base CX0 4 f_tp _ ["point"] (sp_told_point K) := ok_told_point F_tp B D_ispoint D_plain GIP GPl
    have GIn : FnOk l.prog w K mg base CX0 5 f_init _ ["self", "points"] (sp_init K C_S) := ok_init F_init S B D_islist D_ispoint D_tp GIL GIP GTP
    have GPt : FnOk l.prog w K mg base CX0 1 f_pts _ ["self"] (sp_points K C_S) := ok_points F_pts S B
    have GSt : FnOk l.prog w K mg base CX0 7 f_stair _ ["row"] (sp_stair K C_S) := ok_stair F_stair B S M GIn b_init D_chk GCh
    have GPk : FnOk l.prog w K mg base CX0 2 f_pick _ ["_law_pot_here", "_law_some"] (sp_pick K) := ok_pick F_pick B D_draw GD
    have GRow : FnOk l.prog w K mg base CX0 2 f_lrow _ ["_law_pot_here", "_law_most"] (sp_lrow) := ok_lrow F_lrow B D_draw GD
    have GPass : FnOk l.prog w K mg base CX0 2 f_passed _ ["_law_pot_here", "_law_numbers"] (sp_passed K) := ok_passed F_passed B D_draw GD
    have GLb : FnOk l.prog w K mg base CX0 1 f_lbox _ ["_law_one", "_law_other"] (sp_lbox) := ok_lbox F_lbox B
    have GSd : FnOk l.prog w K mg base CX0 1 f_sides _ [] (sp_sides) := ok_sides F_sides B
    have K_mirr : KB (PySem.W.fnOf "mirrored" "mirrored" (defArgs s_mirrored) (defBody s_mirrored) (defScope s_mirrored) .none kV_mirr dc_mirr pm_mirr an_mirr cd_mirr ct_mirr) ["row"] ["row"] 0 := kb_of F_mirr (fun _ _ _ _ _ _ us ws h1 h2 => match us, ws, h1, h2 with | [], [_], _, _ => rfl)
    have K_ismirr : KB (PySem.W.fnOf "is_mirrored" "is_mirrored" (defArgs s_is_mirrored) (defBody s_is_mirrored) (defScope s_is_mirrored) .none kV_ismirr dc_ismirr pm_ismirr an_ismirr cd_ismirr ct_ismirr) ["row"] ["row"] 0 := kb_of F_ismirr (fun _ _ _ _ _ _ us ws h1 h2 => match us, ws, h1, h2 with | [], [_], _, _ => rfl)
    have K_boxof : KB (PySem.W.fnOf "box_of" "box_of" (defArgs s_box_of) (defBody s_box_of) (defScope s_box_of) .none kV_boxof dc_boxof pm_boxof an_boxof cd_boxof ct_boxof) ["row"] ["row"] 0 := kb_of F_boxof (fun _ _ _ _ _ _ us ws h1 h2 => match us, ws, h1, h2 with | [], [_], _, _ => rfl)
    have GRr : FnG l.prog w K mg base 9 f_rowr _ ["_law_pot_here", "_law_numbers"] (sp_rowr) := ok_rowr F_rowr B D_passed GPass D_mirr GMi K_mirr D_ismirr GIm K_ismirr D_boxof GBo D_sides GSd D_lbox GLb
    have GBr : FnG l.prog w K mg base 9 f_boxed _ ["_law_pot_here"] (sp_boxed) := ok_boxed F_boxed B S mP GPt b_pts D_pick GPk D_sides GSd D_lbox GLb D_box GBx (kb_sw F_box (fun _ _ _ _ _ _ us ws h1 h2 => match us, ws, h1, h2 with | [], [_, _], _, _ => rfl)) D_isrow GR D_boxof GBo K_boxof D_ismirr GIm D_lens GLe D_mirr GMi D_stair GSt
    exact ok_law F_law B D_pot D_right (ok_right F_right B D_lrow GRow D_pick GPk D_sides GSd D_lbox GLb D_boxed GBr D_rowr GRr)
end G0

open PySem PySem.W PyProof.Rows
set_option maxRecDepth 100000 in
set_option maxHeartbeats 0 in
theorem PySem.Challenge.cw_pointrows_k56_whole_boxes_and_mirrors_holds : PySem.Challenge.rw_pointrows_k56_whole_boxes_and_mirrors.Holds := by
  w_on; o_law; k_head; (case hw => w_witness2)
  k_fill
  refine G0.walk_G (l := PySem.Challenge.rw_pointrows_k56_whole_boxes_and_mirrors) (n := 63) (k := 11) (x := "_law_script") (sp := G0.sp_law) rfl (by decide) rfl ⟨rfl, by decide, by decide⟩ (fun w h Y => PySem.W.kIn_of Y) ?F (fun _ _ a ns hl _ hS => ⟨a, ns, rfl, hS, hl, fun _ => rfl⟩)
  case F =>
    intro w mg fa h KX G hmg
    refine' G0.all_mk KX G hmg ?a_isint ?l_isint ?c_isint ?k_isint ?a_iscount ?l_iscount ?c_iscount ?k_iscount ?a_islist ?l_islist ?c_islist ?k_islist ?a_isrow ?l_isrow ?c_isrow ?k_isrow ?a_iscounts ?l_iscounts ?c_iscounts ?k_iscounts ?a_first ?l_first ?c_first ?k_first ?a_chk ?l_chk ?c_chk ?k_chk ?a_mirr ?l_mirr ?c_mirr ?k_mirr ?a_ismirr ?l_ismirr ?c_ismirr ?k_ismirr ?a_box ?l_box ?c_box ?k_box ?a_side ?l_side ?c_side ?k_side ?a_boxof ?l_boxof ?c_boxof ?k_boxof ?a_divisor ?l_divisor ?c_divisor ?k_divisor ?a_plain ?l_plain ?c_plain ?k_plain ?a_isthree ?l_isthree ?c_isthree ?k_isthree ?a_ispoint ?l_ispoint ?c_ispoint ?k_ispoint ?a_tp ?l_tp ?c_tp ?k_tp ?a_stair ?l_stair ?c_stair ?k_stair ?a_lens ?l_lens ?c_lens ?k_lens ?a_pot ?l_pot ?c_pot ?k_pot ?a_draw ?l_draw ?c_draw ?k_draw ?a_pick ?l_pick ?c_pick ?k_pick ?a_lrow ?l_lrow ?c_lrow ?k_lrow ?a_passed ?l_passed ?c_passed ?k_passed ?a_lbox ?l_lbox ?c_lbox ?k_lbox ?a_sides ?l_sides ?c_sides ?k_sides ?a_boxed ?l_boxed ?c_boxed ?k_boxed ?a_rowr ?l_rowr ?c_rowr ?k_rowr ?a_right ?l_right ?c_right ?k_right ?a_law ?l_law ?c_law ?k_law ?a_S ?a_init ?i_init ?l_init ?c_init ?k_init ?a_pts ?i_pts ?l_pts ?c_pts ?k_pts ?pg_S ?hd_S ?po_S ?sa_S ?mk_S ?kc_S ?n_S_points ?v_places ?v_sum ?v_most ?v_gcd ?z_isinstance ?z_int ?z_bool ?z_list ?z_tuple ?z_len ?z_all ?z_any ?z_abs ?z_max ?z_min ?z_divmod ?z_range ?z_repr ?z_enumerate ?z_sum ?z_sorted ?z_str ?z_dict
    (case a_isint => k_is)
    (case l_isint => k_is)
    (case c_isint => k_is)
    (case k_isint => k_is)
    (case a_iscount => k_is)
    (case l_iscount => k_is)
    (case c_iscount => k_is)
    (case k_iscount => k_is)
    (case a_islist => k_is)
    (case l_islist => k_is)
    (case c_islist => k_is)
    (case k_islist => k_is)
    (case a_isrow => k_is)
    (case l_isrow => k_is)
    (case c_isrow => k_is)
    (case k_isrow => k_is)
    (case a_iscounts => k_is)
    (case l_iscounts => k_is)
    (case c_iscounts => k_is)
    (case k_iscounts => k_is)
    (case a_first => k_is)
    (case l_first => k_is)
    (case c_first => k_is)
    (case k_first => k_is)
    (case a_chk => k_is)
    (case l_chk => k_is)
    (case c_chk => k_is)
    (case k_chk => k_is)
    (case a_mirr => k_is)
    (case l_mirr => k_is)
    (case c_mirr => k_is)
    (case k_mirr => k_is)
    (case a_ismirr => k_is)
    (case l_ismirr => k_is)
    (case c_ismirr => k_is)
    (case k_ismirr => k_is)
    (case a_box => k_is)
    (case l_box => k_is)
    (case c_box => k_is)
    (case k_box => k_is)
    (case a_side => k_is)
    (case l_side => k_is)
    (case c_side => k_is)
    (case k_side => k_is)
    (case a_boxof => k_is)
    (case l_boxof => k_is)
    (case c_boxof => k_is)
    (case k_boxof => k_is)
    (case a_divisor => k_is)
    (case l_divisor => k_is)
    (case c_divisor => k_is)
    (case k_divisor => k_is)
    (case a_plain => k_is)
    (case l_plain => k_is)
    (case c_plain => k_is)
    (case k_plain => k_is)
    (case a_isthree => k_is)
    (case l_isthree => k_is)
    (case c_isthree => k_is)
    (case k_isthree => k_is)
    (case a_ispoint => k_is)
    (case l_ispoint => k_is)
    (case c_ispoint => k_is)
    (case k_ispoint => k_is)
    (case a_tp => k_is)
    (case l_tp => k_is)
    (case c_tp => k_is)
    (case k_tp => k_is)
    (case a_stair => k_is)
    (case l_stair => k_is)
    (case c_stair => k_is)
    (case k_stair => k_is)
    (case a_lens => k_is)
    (case l_lens => k_is)
    (case c_lens => k_is)
    (case k_lens => k_is)
    (case a_pot => k_is)
    (case l_pot => k_is)
    (case c_pot => k_is)
    (case k_pot => k_is)
    (case a_draw => k_is)
    (case l_draw => k_is)
    (case c_draw => k_is)
    (case k_draw => k_is)
    (case a_pick => k_is)
    (case l_pick => k_is)
    (case c_pick => k_is)
    (case k_pick => k_is)
    (case a_lrow => k_is)
    (case l_lrow => k_is)
    (case c_lrow => k_is)
    (case k_lrow => k_is)
    (case a_passed => k_is)
    (case l_passed => k_is)
    (case c_passed => k_is)
    (case k_passed => k_is)
    (case a_lbox => k_is)
    (case l_lbox => k_is)
    (case c_lbox => k_is)
    (case k_lbox => k_is)
    (case a_sides => k_is)
    (case l_sides => k_is)
    (case c_sides => k_is)
    (case k_sides => k_is)
    (case a_boxed => k_is)
    (case l_boxed => k_is)
    (case c_boxed => k_is)
    (case k_boxed => k_is)
    (case a_rowr => k_is)
    (case l_rowr => k_is)
    (case c_rowr => k_is)
    (case k_rowr => k_is)
    (case a_right => k_is)
    (case l_right => k_is)
    (case c_right => k_is)
    (case k_right => k_is)
    (case a_law => k_is)
    (case l_law => k_is)
    (case c_law => k_is)
    (case k_law => k_is)
    (case a_S => k_is)
    (case a_init => k_is)
    (case i_init => k_is)
    (case l_init => k_is)
    (case c_init => k_is)
    (case k_init => k_is)
    (case a_pts => k_is)
    (case i_pts => k_is)
    (case l_pts => k_is)
    (case c_pts => k_is)
    (case k_pts => k_is)
    (case pg_S => k_is)
    (case hd_S => k_is)
    (case po_S => k_is)
    (case sa_S => k_is)
    (case mk_S => k_is)
    (case kc_S => k_is)
    (case n_S_points => k_is)
    (case v_places => k_is)
    (case v_sum => k_is)
    (case v_most => k_is)
    (case v_gcd => k_is)
    (case z_isinstance => k_is)
    (case z_int => k_is)
    (case z_bool => k_is)
    (case z_list => k_is)
    (case z_tuple => k_is)
    (case z_len => k_is)
    (case z_all => k_is)
    (case z_any => k_is)
    (case z_abs => k_is)
    (case z_max => k_is)
    (case z_min => k_is)
    (case z_divmod => k_is)
    (case z_range => k_is)
    (case z_repr => k_is)
    (case z_enumerate => k_is)
    (case z_sum => k_is)
    (case z_sorted => k_is)
    (case z_str => k_is)
    (case z_dict => k_is)

