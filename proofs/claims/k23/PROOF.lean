import PyProof.Rows.All
import Wide.All
import OpenK.AllK
import Wide.FinOn
import HandS.ForMost
import HandS.Deep
import HandS.Gcd
import HandS.IsInst
import HandS.Wide
import HandS.WideBits
import HandS.FStrTup
import HandS.Walk
import KE.GoesEnum
import KE.GoesMore
import KE.GoesZip
import HandS.Iter
import KE.KUnpack
import PyProof.ReprRoads
import PyProof.CallFns
import HandS.Dict
import HandS.Style
import HandS.Property
import HandS.OwnEq
import HandS.FStr
import HandS.Star
import PySem.Challenge.RW_pointrows_k23_any_value_as_point_or_tabl
set_option Elab.async false
set_option linter.all false
set_option maxRecDepth 100000
set_option maxHeartbeats 4000000
namespace G0
open PySem PySem.Spec PyProof.Rows L2
/-! A def's promise where no repr is under way (the around's guards are empty): repr of data is then known. -/
structure FnG (P : Program) (w : World) (K : PySem.W.Frag) (mg : Str → Option Value) (base : Heap) (k : Nat) (f : Addr) (fd : FuncData) (ps : List Str) (sp : Sp) : Prop where
  len : ∀ vs H Q E, sp vs H Q E → vs.length = ps.length
  run : ∀ (A : Around) (outer : List Env) (s : Shared) (H : Hp) (args : Args) (us : List Value) (vs : List V) (Q : VK) (E : XK), A.guards = some [] → Room k A →
    Env0 P w K mg base A outer s H → BindsTo s fd args (ps.zip us) → Vals vs us → sp vs H Q E → codeAny (model P w) A (.call (.ref f) args) (CR CX0 outer P w H s Q E) s
theorem FnG.ofOk {P : Program} {w : World} {K : PySem.W.Frag} {mg : Str → Option Value} {base : Heap} {k : Nat} {f : Addr} {fd : FuncData} {ps : List Str} {sp : Sp} (F : FnOk P w K mg base CX0 k f fd ps sp) : FnG P w K mg base k f fd ps sp :=
  ⟨F.len, fun A outer s H args us vs Q E _ hr he hb hv hs => F.run A outer s H args us vs Q E hr he hb hv hs⟩
theorem FnG.mono {P : Program} {w : World} {K : PySem.W.Frag} {mg : Str → Option Value} {base : Heap} {j k : Nat} {f : Addr} {fd : FuncData} {ps : List Str} {sp : Sp} (F : FnG P w K mg base j f fd ps sp) (h : j ≤ k) : FnG P w K mg base k f fd ps sp :=
  ⟨F.len, fun A outer s H args us vs Q E hg hr => F.run A outer s H args us vs Q E hg (hr.mono h)⟩

section
variable {X : Cx} {k : Nat} {f : Addr} {fd : FuncData} {ps : List Str} {sp : Sp} {dvs : List V} {ds : List Value} {E : XK} {x : Str} {p pos : Pos} {e : Expr} {es : List Expr} {t : TA}
theorem run_g {pn : List (Addr × Obj)} {σ : L2.St} {H : Hp} {s : Shared} {Q : VK} {us : List Value} {vs : List V} (F : FnG X.prog X.w X.K X.mg X.base k f fd ps sp) (gd : X.A.guards = some []) (room : Room k X.A) (bn : Binds X.K fd ps ds) (dv : Vals dvs ds)
    (J : Inv X pn σ H s) (rv : Vals vs us) (want : sp (vs ++ dvs) H Q E) : wpAny (model X.prog X.w) X.A (call (.ref f) us) (EP X pn σ Q) X.xe s := by
  have rv2 := rv.append dv
  have ln : (us ++ ds).length = ps.length := rv2.length.symm.trans (F.len _ _ _ _ want)
  refine wpAny_call (codeAny_mono (F.run X.A X.stack s H ⟨us, []⟩ (us ++ ds) (vs ++ dvs) Q E gd room J.env0 (bn s us J.kIn ln) rv2 want) fun res s2 got => ?_)
  match res, got with
  | .error _, got => exact got.elim
  | .ok (.ret _), got => exact J.after got
  | .ok .next, got => exact got.elim
  | .ok .brk, got => exact got.elim
  | .ok .cont, got => exact got.elim
theorem pe_callG (F : FnG X.prog X.w X.K X.mg X.base k f fd ps sp) (gd : X.A.guards = some []) (room : Room k X.A) (gl : Gl X x) (at_ : X.mg x = some (.ref f)) (kp : PySem.W.keepIn X.K (.ref f) = true) (bn : Binds X.K fd ps ds) (dv : Vals dvs ds)
    (pa : PA X (e :: es) t) (hdb : (x == ("__debug__" : Str)) = false := by decide) (he : starEach (e :: es) X.env = (false, eval e X.env) :: starEach es X.env := by rfl) (hpl : (backTo pos (starEach es X.env)).any (·.1) = false := by rfl) :
    PE X (.Call (.Name x p) (e :: es) [] pos) (tCall sp dvs E t) := by
  constructor
  intro pn s σ H Q J want
  apply wpAny_Call_Name_kw
  refine ld_glob J gl at_ ?_ hdb
  refine PySem.W.callWith_K (h₀ := X.base) J.ok.mod.kin kp ?_ he hpl
  refine thn (pa.run pos pn s σ H _ J want) ?_
  rintro us s1 ⟨vs, H1, J1, rv, q⟩
  exact ⟨J1.kIn, run_g F gd room bn dv J1 rv q⟩
end

/-- a def's body, the guards empty -/
theorem _root_.L2.Fun.okG {P : Program} {w : World} {K : PySem.W.Frag} {mg : Str → Option Value} {base : Heap} {x qual : Str} {st : Stmt} {f : Addr} {fd : FuncData} {N ps : List Str} {k : Nat} {sp : Sp} (F : Fun K x qual st f fd) (S : FnScope N ps (defScope st))
    (ln : ∀ vs H Q E, sp vs H Q E → vs.length = ps.length)
    (body : ∀ (cdv : Value) (A : Around) (outer : List Env) (s : Shared) (H : Hp) (vs : List V) (Q : VK) (E : XK), (A.deeper (envOfC qual (defScope st) s.heap.objs.size f cdv)).guards = some [] → Room k (A.deeper (envOfC qual (defScope st) s.heap.objs.size f cdv)) → sp vs H Q E →
      ∃ t, PSs (cxOf CX0 P w K mg base N qual (defScope st) f cdv A outer s H E).nox (defBody st) t ∧ t { nx := fun _ H' => Q .non H', rt := Q } (start N vs) H) : FnG P w K mg base (k + 1) f fd ps sp := by
  obtain ⟨oc, od, kV, doc, pm, an, cdv, ct, osl, rfl, look, code⟩ := F.ex
  constructor
  · exact ln
  intro A outer s H args us vs Q E gd room e0 bn rv want
  have ln1 := ln _ _ _ _ want
  have kin : K.In s.heap := e0.mod.kin.keeps fun b o q => (e0.bs b o q).1
  have nolim : s.heap.NoLimit := e0.mod.nolimit.keeps fun b o q => (e0.bs b o q).1
  have kinds : ∀ y ∈ ps.zip us, (defScope st).names.lookup y.1 = some .local ∨ ((defScope st).names.lookup y.1 = some .cell ∧ ((cellsFrom (s.heap.objs.size + 1) (defScope st).names []).lookup y.1).isSome = true) := by
    rintro ⟨n, v⟩ mem
    rcases S.par n (List.of_mem_zip mem).1 with here | here
    · exact .inl here
    · exact .inr ⟨here, PySem.W.cellsFrom_some _ _ _ (.inl here)⟩
  refine codeAny_call_function room.depth (kin _ _ look) rfl S.co S.gen rfl (PySem.W.codeRec_of kin code) (bn _ _ _ _ ?_)
  refine wpAny_newFunctionEnv_cells S.kind kinds fun env he s1 into => ?_
  cases he
  refine ⟨nolim.keeps into.toInCall.keep, codeAny_func ?_⟩
  obtain ⟨t, ht, run⟩ := body cdv A outer s H vs Q E gd (room.deeper _) want
  have J : Inv (cxOf CX0 P w K mg base N qual (defScope st) f cdv A outer s H E) [] (start N vs) H s1 := inv_start S room.hd e0 ln1 rv into
  refine wpAny_mono (ht.nox.run [] s1 (start N vs) H _ J run) (fun fl s2 got => ?_) fun _ _ got => got
  match fl, got with
  | .ret u, ⟨v, σ2, H2, J2, rv2, q⟩ => exact ⟨v, H2, J2.os, J2.bare, J2.base, J2.hok, rv2, q⟩
  | .next, ⟨σ2, H2, J2, q⟩ => exact ⟨.non, H2, J2.os, J2.bare, J2.base, J2.hok, rfl, q⟩
  | .brk, ⟨_, _, _, q⟩ => exact q.elim
  | .cont, ⟨_, _, _, q⟩ => exact q.elim

/-! ### repr of data -/
def rRepr (K : PySem.W.Frag) : List V → Hp → VK → Prop := fun xs H Q => ∃ (x : V) (d : PyData), xs = [x] ∧ Dp K H x d ∧ d.showable = true ∧ d.hasDict = false ∧ d.depth ≤ 16 ∧ d.shown.length ≤ sizeLine ∧ Q (.str d.shown) H
theorem cr_repr {X : Cx} (gd : X.A.guards = some []) (hu : X.A.units + 64 < cLine) : CallR X (.builtin "repr") (fun xs H Q => ∃ (a : Addr) (d : PyData), xs = [.ref a] ∧ Dp X.K H (.ref a) d ∧ d.showable = true ∧ d.hasDict = false ∧ d.depth ≤ 16 ∧ d.shown.length ≤ sizeLine ∧ Q (.str d.shown) H) := by
  intro pn s σ H xs us Q J rv h
  obtain ⟨a, d, rfl, dp, sh, nd, dep, z, q⟩ := h
  obtain ⟨u, rfl, ru⟩ := vals1 rv
  cases ru
  obtain ⟨as, rd⟩ := Dp.reads J d _ _ dp rfl
  refine repr_of_reads' rd sh (fun e => ?_) gd (by omega) (fun _ _ e => e) (fun h2 u2 tk keep => ?_) z
  · rw [nd] at e
    cases e
  · exact ⟨.str d.shown, H, J.kept keep, ⟨_, rfl⟩, q⟩
end G0

namespace G0
open PySem PySem.Spec PyProof.Rows L2
/-- the law is called where no repr is under way -/
theorem call_top {P : Program} {w : World} {K : PySem.W.Frag} {mg mb : Str → Option Value} {k : Nat} {fa a : Addr} {fd : FuncData} {x : Str} {sp : Sp} {s1 : Shared} {vs : List Value} {ns : List Int}
    (kin : K.In s1.heap) (hns : s1.heap.Ns mainGlobals mg) (hb : s1.heap.Ns builtinsNs mb) (hbb : ∀ x : Str, x ≠ "__name__" → mb x = bootBuiltins x) (lim : s1.heap.NoLimit) (gens : s1.gens = #[])
    (ha : s1.heap.get? a = some { cls := .type "list", data := .seq vs.toArray }) (hi : IntsAre vs ns) (hl : ns.length ≤ sizeLine) (room : Room k callerA)
    (F : ∀ base : Heap, K.In base → base.Ns mainGlobals mg → FnG P w K mg base k fa fd [x] sp) (bind : ∀ (s : Shared) (u : Value), BindsTo s fd ⟨[u], []⟩ [(x, u)])
    (want : ∀ H : Hp, Only H → SqL K H a (ns.map V.int) → sp [.ref a] H (fun v _ => v = .bl true) fun _ _ _ => False) :
    codeAny (model P w) callerA (.call (.ref fa) ⟨[.ref a], []⟩) (fun r s2 => r = .ok (.ret (.bool true)) ∧ OldK s1.heap s2.heap ∧ s2.os = s1.os ∧ AllBare s2.gens) s1 := by
  have vv := vals_ints hi
  have lv := hi.length
  -- H tracks nothing, or the script alone
  have main : ∀ H : Hp, Only H → SqL K H a (ns.map V.int) → HOk P w H s1.heap → (∀ b, H b ≠ none → b = a ∧ K.lookup a = none) →
      codeAny (model P w) callerA (.call (.ref fa) ⟨[.ref a], []⟩) (fun r s2 => r = .ok (.ret (.bool true)) ∧ OldK s1.heap s2.heap ∧ s2.os = s1.os ∧ AllBare s2.gens) s1 := by
    intro H only sq hok just
    have free : ∀ {b : Addr} {ob : Obj} {es : Array DictEntry} {ep : Nat}, s1.heap.get? b = some ob → ob.data = .dict es ep → H b = none := by
      intro b ob es ep e1 e2
      refine Classical.byContradiction fun no => ?_
      obtain rfl := (just b no).1
      rw [ha] at e1
      cases e1
      cases (show Data.seq vs.toArray _ = Data.dict es ep from e2)
    have ns_of : ∀ {b : Addr} {m : Str → Option Value}, s1.heap.Ns b m → (hidT s1.heap H).Ns b m := by
      rintro b m ⟨ob, es, ep, e1, e2, rest⟩
      exact ⟨ob, es, ep, hidT_get e1 (free e1 e2), e2, rest⟩
    have kinH : K.In (hidT s1.heap H) := by
      intro b ob e1
      refine hidT_get (kin b ob e1) (Classical.byContradiction fun no => ?_)
      obtain ⟨rfl, z⟩ := just b no
      rw [z] at e1
      cases e1
    have limH : (hidT s1.heap H).NoLimit := by
      obtain ⟨mc, l1, l2⟩ := lim
      exact ⟨mc, ns_of l1, l2⟩
    have env : Env0 P w K mg (hidT s1.heap H) callerA [] s1 H := by
      refine ⟨rfl, ⟨kinH, ns_of hns, ⟨mb, ns_of hb, hbb⟩, limH⟩, fun b ob e1 => of_hidT e1, Nat.le_of_eq (hidT_size _ _), trivial, ?_, hok, .of_eq gens⟩
      intro b mem
      cases (show b ∈ ([] : List Addr) from mem)
    refine codeAny_mono ((F _ kinH (ns_of hns)).run callerA [] s1 H ⟨[.ref a], []⟩ [.ref a] [.ref a] _ _ rfl room env (bind s1 (.ref a)) (.cons rfl .nil) (want H only sq)) fun res s2 got => ?_
    match res, got with
    | .error _, got => exact got.elim
    | .ok .next, got => exact got.elim
    | .ok .brk, got => exact got.elim
    | .ok .cont, got => exact got.elim
    | .ok (.ret u), ⟨v, H2, eos, bare, un, hok2, rv, (q : v = .bl true)⟩ =>
      subst q
      obtain rfl : u = Value.bool true := rv
      refine ⟨rfl, OldK.of_keep fun b ob e1 => ?_, eos, bare⟩
      rcases only b with z | ⟨oz, ys, z⟩
      · refine un.keep b ob e1 z (fun mem => ?_) (fun mem => ?_)
        · cases (show b ∈ ([] : List Addr) from mem)
        · cases mem
      · obtain ⟨i1, _⟩ := hok b _ z
        obtain ⟨i2, _⟩ := hok2 b _ (un.frzs b oz _ z)
        exact i2.trans (i1.symm.trans e1)
  cases written : K.lookup a with
  | some ob =>
    have e1 := kin a ob written
    rw [ha] at e1
    cases e1
    refine main (fun _ => none) (fun _ => .inl rfl) (.inr ⟨_, vs.toArray, _, written, rfl, rfl, rfl, ?_, ?_⟩) (fun b u e2 => ?_) (fun b no => absurd rfl no)
    · rw [List.size_toArray, lv]
      exact hl
    · simpa using vv
    · cases (show (none : Option HO) = some u from e2)
  | none =>
    let T : Hp := fun b => if b = a then some (.frz { cls := .type "list", data := .seq vs.toArray } (.lst (ns.map V.int))) else none
    have here : T a = some (.frz { cls := .type "list", data := .seq vs.toArray } (.lst (ns.map V.int))) := if_pos rfl
    have away : ∀ b, b ≠ a → T b = none := fun b ne => if_neg ne
    refine main T (fun b => ?_) (.inl (.inr ⟨_, here⟩)) (fun b u e2 => ?_) (fun b no => ?_)
    · by_cases eb : b = a
      · subst eb
        exact .inr ⟨_, _, here⟩
      · exact .inl (away b eb)
    · by_cases eb : b = a
      · subst eb
        rw [here] at e2
        cases e2
        refine ⟨ha, ?_, vs, _, vv, ha⟩
        rw [List.length_map]
        exact hl
      · rw [away b eb] at e2
        cases e2
    · refine ⟨Classical.byContradiction fun ne => no (away b ne), written⟩
/-- what k_head leaves, by such a promise -/
theorem walk_G {l : PySem.W.OpenLaw} {n k : Nat} {q : Program} {loose : List Str} {XP : (Str → Option Value) → Heap → Prop} {YP : World → Heap → Prop} {d : DefRec} {K : Params → PySem.W.Frag} {sp : PySem.W.Frag → Sp} {x : Str}
    (most : l.most = some n) (fits : n ≤ sizeLine) (nodf : d.params.defaults = []) (room : Room k callerA) (hY : ∀ (w : World) (h : Heap), YP w h → (K w.params).In h)
    (F : ∀ (w : World) (mg : Str → Option Value) (fa : Addr) (h : Heap), (K w.params).In h → h.Ns mainGlobals mg → mg d.name = some (.ref fa) →
      ∃ fd : FuncData, (∀ (s : Shared) (u : Value), BindsTo s fd ⟨[u], []⟩ [(x, u)]) ∧ ∀ base : Heap, (K w.params).In base → base.Ns mainGlobals mg → FnG l.prog w (K w.params) mg base k fa fd [x] (sp (K w.params)))
    (want : ∀ (w : World) (H : Hp) (a : Addr) (ns : List Int), ns.length ≤ n → Only H → SqL (K w.params) H a (ns.map V.int) → sp (K w.params) [.ref a] H (fun v _ => v = .bl true) fun _ _ _ => False) :
    PySem.W.WalkO q loose XP YP l.row.toRowW d [] (fun f vs => PySem.call f vs) := by
  refine Att.attach_call most nodf ?_
  intro w s0 s1 mg mb fa o pm cd doc a vs ns G Y ho hd hcd hmg hobj iv len gens
  obtain ⟨fd, bn, hF⟩ := F w mg fa _ (hY w _ Y) G.T.g hmg
  exact call_top (hY w _ Y) G.T.g G.T.b G.T.builtins G.T.nolimit gens hobj iv (Nat.le_trans len fits) room hF bn fun H only sq => want w H a ns len only sq
end G0

namespace G0
open PySem PySem.Spec PyProof.Rows L2
/-! ### calls whose last arguments are all given by name, in the parameters' sequence -/
structure KB (fd : FuncData) (ps ks : List Str) (n : Nat) : Prop where
  to : ∀ us ws : List Value, us.length = n → ws.length = ks.length → bindArgs fd ⟨us, ks.zip ws⟩ = pure (ps.zip (us ++ ws))
theorem kb_of {K : PySem.W.Frag} {x qual : Str} {st : Stmt} {f : Addr} {fd : FuncData} {ps ks : List Str} {n : Nat} (F : Fun K x qual st f fd)
    (h : ∀ (kV doc pm : Value) (an : Option Addr) (cdv ct : Value) (us ws : List Value), us.length = n → ws.length = ks.length → bindArgs (PySem.W.fnOf x qual (defArgs st) (defBody st) (defScope st) .none kV doc pm an cdv ct) ⟨us, ks.zip ws⟩ = pure (ps.zip (us ++ ws))) : KB fd ps ks n := by
  obtain ⟨oc, od, kV, doc, pm, an, cdv, ct, osl, rfl, _, _⟩ := F.ex
  exact ⟨h kV doc pm an cdv ct⟩
section
variable {X : Cx} {k n : Nat} {f C : Addr} {fd : FuncData} {ps ks : List Str} {sp : Sp} {E : XK} {x m : Str} {p pos apos : Pos} {e o : Expr} {kws : List Keyword} {ta : TE} {tk : TA}
theorem run_kb {pn : List (Addr × Obj)} {σ : L2.St} {H : Hp} {s : Shared} {Q : VK} {us ws : List Value} {vs zs : List V} (F : FnOk X.prog X.w X.K X.mg X.base CX0 k f fd ps sp) (room : Room k X.A) (bn : KB fd ps ks n)
    (J : Inv X pn σ H s) (rv : Vals vs us) (rz : Vals zs ws) (l1 : vs.length = n) (l2 : zs.length = ks.length) (want : sp (vs ++ zs) H Q E) : wpAny (model X.prog X.w) X.A (call (.ref f) us (ks.zip ws)) (EP X pn σ Q) X.xe s := by
  refine wpAny_call (codeAny_mono (F.run X.A X.stack s H ⟨us, ks.zip ws⟩ (us ++ ws) (vs ++ zs) Q E room J.env0 (.of_eq (bn.to us ws (rv.length.symm.trans l1) (rz.length.symm.trans l2))) (rv.append rz) want) fun res s2 got => ?_)
  match res, got with
  | .error _, got => exact got.elim
  | .ok (.ret _), got => exact J.after got
  | .ok .next, got => exact got.elim
  | .ok .brk, got => exact got.elim
  | .ok .cont, got => exact got.elim
/-- f(k = v, ..) -/
def tCallN (sp : Sp) (n : Nat) (E : XK) (tk : TA) : TE := fun σ H Q => tk σ H fun zs H1 => zs.length = n ∧ sp zs H1 Q E
theorem pe_callN (F : FnOk X.prog X.w X.K X.mg X.base CX0 k f fd ps sp) (room : Room k X.A) (gl : Gl X x) (at_ : X.mg x = some (.ref f)) (kp : PySem.W.keepIn X.K (.ref f) = true) (bn : KB fd ps ks 0) (pk : PK X kws tk)
    (hall : (backToKw pos (keywordEach kws X.env)).all (·.1.isSome) = true := by rfl) (hks : (backToKw pos (keywordEach kws X.env)).filterMap (·.1) = ks := by rfl) (hdb : (x == ("__debug__" : Str)) = false := by decide)
    (hpl : ((backTo pos (starEach [] X.env)).any (·.1) || (backToKw pos (keywordEach kws X.env)).any (·.1.isNone)) = false := by rfl) : PE X (.Call (.Name x p) [] kws pos) (tCallN sp ks.length E tk) := by
  constructor
  intro pn s σ H Q J want
  apply wpAny_Call_Name_kw
  refine ld_glob J gl at_ ?_ hdb
  refine PySem.W.callWith_KW0 (h₀ := X.base) J.ok.mod.kin kp hall ?_ hpl
  refine thn (pk.run pos pn s σ H _ J want) ?_
  rintro ws s2 ⟨zs, H2, J2, rz, l2, q2⟩
  rw [hks]
  exact ⟨J2.kIn, run_kb (us := []) (vs := []) F room bn J2 .nil rz rfl l2 q2⟩
/-- o.m(k = v, ..) -/
def tMethN (C : Addr) (m : Str) (sp : Sp) (n : Nat) (E : XK) (ta : TE) (tk : TA) : TE := fun σ H Q => ta σ H fun x H1 => ∃ a dx fs, x = .ref a ∧ H1 a = some (.ins C dx fs) ∧ fs.lookup m = none ∧ tk σ H1 fun zs H2 => zs.length = n ∧ sp (x :: zs) H2 Q E
theorem pe_methN {pl : Sem Bool} (po : PE X o ta) (c : Cls X.K C) (hm : Meth X.K C m f) (F : FnOk X.prog X.w X.K X.mg X.base CX0 k f fd ps sp) (room : Room k X.A) (bn : KB fd ps ks 1) (pk : PK X kws tk)
    (hall : (backToKw pos (keywordEach kws X.env)).all (·.1.isSome) = true := by rfl) (hks : (backToKw pos (keywordEach kws X.env)).filterMap (·.1) = ks := by rfl)
    (hpl : ((backTo pos (starEach [] X.env)).any (·.1) || (backToKw pos (keywordEach kws X.env)).any (·.1.isNone)) = false := by rfl)
    (ht : eval (.Call (.Attribute o m apos) [] kws pos) X.env = (do
      let ov ← eval o X.env
      standAt apos.atName
      let (g, first) ← holding [ov] (getMethod ov m pl)
      callWith pos g first (backTo pos (starEach [] X.env)) (backToKw pos (keywordEach kws X.env))) := by rfl) :
    PE X (.Call (.Attribute o m apos) [] kws pos) (tMethN C m sp ks.length E ta tk) := by
  constructor
  intro pn s σ H Q J want
  refine PySem.W.methodCall_KW (pl := pl) (thn (po.run pn s σ H _ J want) ?_) ht
  rintro u s1 ⟨x, H1, J1, rx, a, dx, fs, rfl, ea, l, q⟩
  obtain rfl : u = Value.ref a := rx
  refine getmeth_ok J1 ea c hm l ?_
  refine PySem.W.callWith_KW0 (first := [.ref a]) (h₀ := X.base) J1.ok.mod.kin hm.kp hall ?_ hpl
  refine thn (pk.run pos pn s1 σ H1 _ J1 q) ?_
  rintro ws s2 ⟨zs, H2, J2, rz, l2, q2⟩
  rw [hks]
  refine ⟨J2.kIn, ?_⟩
  exact run_kb (us := [.ref a]) (vs := [.ref a]) F room bn J2 (.cons rfl .nil) rz rfl l2 q2
end

/-! ### data in the heap -/
theorem same_new {H : Hp} {q : Addr} {o : HO} (h : H q = none) : Same H (upd H q o) := fun b u e => by
  rw [upd_ne (ne_of_none e h)]
  exact e
theorem same_t {K : PySem.W.Frag} {H H' : Hp} {a : Addr} {xs : List V} (e : Same H H') (h : SqT K H a xs) : SqT K H' a xs := by
  rcases h with (h | ⟨o, h⟩) | h
  · exact .inl (.inl (e _ _ h))
  · exact .inl (.inr ⟨o, e _ _ h⟩)
  · exact .inr h
/-- a list or a tuple -/
def Sq (K : PySem.W.Frag) (H : Hp) (a : Addr) (xs : List V) : Prop := SqL K H a xs ∨ SqT K H a xs
theorem Sq.same {K : PySem.W.Frag} {H H' : Hp} {a : Addr} {xs : List V} (e : Same H H') (h : Sq K H a xs) : Sq K H' a xs := h.imp e.seq (same_t e)
theorem SqT.mk {K : PySem.W.Frag} {H : Hp} {a : Addr} {xs : List V} (h : H a = some (.tup xs)) : SqT K H a xs := .inl (.inl h)
theorem SqL.mk {K : PySem.W.Frag} {H : Hp} {a : Addr} {xs : List V} (h : H a = some (.lst xs)) : SqL K H a xs := .inl (.inl h)
mutual
theorem Dp.same {K : PySem.W.Frag} {H H' : Hp} (e : Same H H') : ∀ {v : V} {d : PyData}, Dp K H v d → Dp K H' v d
  | _, _, .non => .non
  | _, _, .bl b => .bl b
  | _, _, .int i => .int i
  | _, _, .str x => .str x
  | _, _, .lst h a => .lst (e.seq h) (DpAll.same e a)
  | _, _, .tup h a => .tup (same_t e h) (DpAll.same e a)
theorem DpAll.same {K : PySem.W.Frag} {H H' : Hp} (e : Same H H') : ∀ {vs : List V} {ds : List PyData}, DpAll K H vs ds → DpAll K H' vs ds
  | _, _, .nil => .nil
  | _, _, .cons h a => .cons (Dp.same e h) (DpAll.same e a)
end
theorem dp_ints {K : PySem.W.Frag} {H : Hp} : ∀ ns : List Int, DpAll K H (ns.map V.int) (ns.map PyData.int)
  | [] => .nil
  | n :: ns => .cons (.int n) (dp_ints ns)
/-- what a list, a tuple of ints is, as data -/
abbrev dTup (ns : List Int) : PyData := .tuple (ns.map .int)
abbrev dLst (ns : List Int) : PyData := .list (ns.map .int)
theorem dp_tup {K : PySem.W.Frag} {H : Hp} {a : Addr} {ns : List Int} (h : SqT K H a (ns.map V.int)) : Dp K H (.ref a) (dTup ns) := .tup h (dp_ints ns)
theorem dp_lst {K : PySem.W.Frag} {H : Hp} {a : Addr} {ns : List Int} (h : SqL K H a (ns.map V.int)) : Dp K H (.ref a) (dLst ns) := .lst h (dp_ints ns)
theorem eqv_ints : ∀ ns ms : List Int, PyData.eqvAll (ns.map PyData.int) (ms.map PyData.int) = decide (ns = ms)
  | [], [] => by simp [PyData.eqvAll]
  | [], _ :: _ => by simp [PyData.eqvAll]
  | _ :: _, [] => by simp [PyData.eqvAll]
  | n :: ns, m :: ms => by
    have ih := eqv_ints ns ms
    simp only [List.map_cons, PyData.eqvAll, PyData.eqv, ih, List.cons.injEq, Bool.decide_and]
    congr 1
theorem eqv_tup (ns ms : List Int) : PyData.eqv (dTup ns) (dTup ms) = decide (ns = ms) := by
  simp only [PyData.eqv, eqv_ints]
end G0

namespace G0
open PySem PySem.Spec PyProof.Rows L2
/-! ### data whose text is short enough -/
mutual
def szD : PyData → Nat
  | .none => 5
  | .bool _ => 5
  | .int _ => 1930
  | .str x => (reprText x).length
  | .list xs => szAll xs + 3
  | .tuple xs => szAll xs + 3
  | .dict _ => 0
def szAll : List PyData → Nat
  | [] => 0
  | x :: xs => szD x + 2 + szAll xs
end
theorem list_text (ts : List Str) : (listText ts).length ≤ piled ts + 2 := by
  unfold listText
  rw [strLen_append]
  have e1 : ((("[" : String) : Str)).length = 1 := rfl
  have e2 : ((("]" : String) : Str)).length = 1 := rfl
  cases ts with
  | nil =>
    show (("[" : String) : Str).length + _ ≤ _
    omega
  | cons t r =>
    show (textFrom 1 ((("[" : String) : Str) ++ ((if 0 > 0 then ", " else "" : String) : Str) ++ t) r).length + _ ≤ _
    have e3 : (((if 0 > 0 then ", " else "" : String) : Str)).length = 0 := rfl
    rw [textFrom_length_pos _ _ _ Nat.one_pos, strLen_append, strLen_append, piled_cons]
    omega
mutual
theorem shown_le : ∀ d : PyData, d.showable = true → d.hasDict = false → d.shown.length ≤ szD d
  | .none, _, _ => by
    simp only [PyData.shown, szD]
    decide
  | .bool b, _, _ => by
    cases b <;> simp only [PyData.shown, szD] <;> decide
  | .int i, h, _ => by
    simp only [PyData.shown, szD]
    simp only [PyData.showable, decide_eq_true_eq] at h
    have e := int_text_length_le (k := 1920) (by decide) h
    have e2 : ((toString i : String) : Str).length = (toString i).length := PySem.ofString_length _
    omega
  | .str x, _, _ => by
    simp only [PyData.shown, szD]
    exact Nat.le_refl _
  | .list xs, h, n => by
    simp only [PyData.showable] at h
    simp only [PyData.hasDict] at n
    simp only [PyData.shown, szD]
    have e1 := list_text (PyData.shownAll xs)
    have e2 := shownAll_le xs h n
    omega
  | .tuple xs, h, n => by
    simp only [PyData.showable] at h
    simp only [PyData.hasDict] at n
    simp only [PyData.shown, szD]
    have e1 := fmt_text (PyData.shownAll xs)
    have e2 := shownAll_le xs h n
    omega
  | .dict _, _, n => by
    simp only [PyData.hasDict] at n
    cases n
theorem shownAll_le : ∀ xs : List PyData, PyData.showableAll xs = true → PyData.hasDictAll xs = false → piled (PyData.shownAll xs) ≤ szAll xs
  | [], _, _ => by
    simp only [PyData.shownAll, szAll, piled_nil]
    exact Nat.le_refl _
  | x :: xs, h, n => by
    simp only [PyData.showableAll, Bool.and_eq_true] at h
    simp only [PyData.hasDictAll, Bool.or_eq_false_iff] at n
    have e1 := shown_le x h.1 n.1
    have e2 := shownAll_le xs h.2 n.2
    simp only [PyData.shownAll, szAll, piled_cons]
    omega
end
/-- short data, no dict in it: its repr is known -/
structure Fine (d : PyData) : Prop where
  sh : d.showable = true
  nd : d.hasDict = false
  dep : d.depth ≤ 16
  sz : szD d ≤ 10000000
theorem Fine.fit {d : PyData} (h : Fine d) : d.shown.length ≤ sizeLine := by
  have e := shown_le d h.sh h.nd
  have := h.sz
  rw [sizeLine_eq]
  omega
/-- a list of fine ones, no more than 4000 of them, deep and long as told -/
structure FineAll (ds : List PyData) (dep sz : Nat) : Prop where
  sh : PyData.showableAll ds = true
  nd : PyData.hasDictAll ds = false
  dep : PyData.depthAll ds ≤ dep
  sz : szAll ds ≤ sz
theorem FineAll.nil {dep sz : Nat} : FineAll [] dep sz := ⟨by simp only [PyData.showableAll], by simp only [PyData.hasDictAll], by simp only [PyData.depthAll]; exact Nat.zero_le _, by simp only [szAll]; exact Nat.zero_le _⟩
theorem FineAll.cons {d : PyData} {ds : List PyData} {dep s1 s2 : Nat} (h1 : d.showable = true) (h2 : d.hasDict = false) (h3 : d.depth ≤ dep) (h4 : szD d ≤ s1) (h : FineAll ds dep s2) : FineAll (d :: ds) dep (s1 + 2 + s2) := by
  refine ⟨?_, ?_, ?_, ?_⟩
  · simp only [PyData.showableAll, h1, h.sh, Bool.and_self]
  · simp only [PyData.hasDictAll, h2, h.nd, Bool.or_self]
  · simp only [PyData.depthAll]
    exact Nat.max_le.mpr ⟨h3, h.dep⟩
  · simp only [szAll]
    have := h.sz
    omega
theorem small_log {i : Int} (h : i.natAbs < 2 ^ 1919) : i.natAbs.log2 < 1920 := by
  by_cases e : i.natAbs = 0
  · rw [e]
    decide
  · exact (Nat.log2_lt e).mpr (Nat.lt_trans h (by decide +kernel))
/-- ints of up to 1900 bits -/
def Sm (ns : List Int) : Prop := ∀ n ∈ ns, n.natAbs < 2 ^ 1919
theorem fine_ints : ∀ {ns : List Int}, Sm ns → FineAll (ns.map PyData.int) 0 (1932 * ns.length)
  | [], _ => .nil
  | n :: ns, h => by
    have ih := fine_ints (ns := ns) fun m hm => h m (List.mem_cons_of_mem _ hm)
    have e := FineAll.cons (d := .int n) (dep := 0) (s1 := 1930) (by simp only [PyData.showable, decide_eq_true_eq]; exact small_log (h n List.mem_cons_self)) (by simp only [PyData.hasDict]) (by simp only [PyData.depth]; exact Nat.le_refl _) (by simp only [szD]; exact Nat.le_refl _) ih
    refine ⟨e.sh, e.nd, e.dep, Nat.le_trans e.sz ?_⟩
    rw [List.length_cons]
    omega
theorem Fine.tup {ds : List PyData} {dep sz : Nat} (h : FineAll ds dep sz) (h1 : dep ≤ 15) (h2 : sz + 3 ≤ 10000000) : Fine (.tuple ds) := by
  refine ⟨by simp only [PyData.showable]; exact h.sh, by simp only [PyData.hasDict]; exact h.nd, ?_, ?_⟩
  · have := h.dep
    simp only [PyData.depth]
    omega
  · have := h.sz
    simp only [szD]
    omega
theorem Fine.lst {ds : List PyData} {dep sz : Nat} (h : FineAll ds dep sz) (h1 : dep ≤ 15) (h2 : sz + 3 ≤ 10000000) : Fine (.list ds) := by
  refine ⟨by simp only [PyData.showable]; exact h.sh, by simp only [PyData.hasDict]; exact h.nd, ?_, ?_⟩
  · have := h.dep
    simp only [PyData.depth]
    omega
  · have := h.sz
    simp only [szD]
    omega
theorem fine_tup {ns : List Int} (h : Sm ns) (l : ns.length ≤ 5000) : Fine (dTup ns) := .tup (fine_ints h) (by decide) (by omega)
theorem fine_lst {ns : List Int} (h : Sm ns) (l : ns.length ≤ 5000) : Fine (dLst ns) := .lst (fine_ints h) (by decide) (by omega)
/-- repr of fine data -/
def rReprF (K : PySem.W.Frag) : List V → Hp → VK → Prop := fun xs H Q => ∃ (a : Addr) (d : PyData), xs = [.ref a] ∧ Dp K H (.ref a) d ∧ Fine d ∧ Q (.str d.shown) H
theorem call_repr {X : Cx} (gd : X.A.guards = some []) (hu : X.A.units + 64 < cLine) : CallR X (.builtin "repr") (rReprF X.K) := by
  intro pn s σ H xs us Q J rv h
  obtain ⟨a, d, e, dp, f, q⟩ := h
  exact cr_repr gd hu pn s σ H xs us Q J rv ⟨a, d, e, dp, f.sh, f.nd, f.dep, f.fit, q⟩
end G0

namespace G0
open PySem PySem.Spec PyProof.Rows L2
/-! ### comprehensions that only add: an item x gives what F says, or nothing -/
def fm (F : V → Option V) (xs : List V) : List V := xs.filterMap F
theorem fm_succ {F : V → Option V} {xs : List V} {i : Nat} {x : V} (h : xs[i]? = some x) : fm F (xs.take (i + 1)) = fm F (xs.take i) ++ (match F x with | some y => [y] | none => []) := by
  unfold fm
  rw [List.take_add_one, h, List.filterMap_append]
  congr 1
  simp only [Option.toList]
  cases e : F x <;> simp [e]
theorem fm_len (F : V → Option V) (xs : List V) (i : Nat) : (fm F (xs.take i)).length ≤ xs.length :=
  Nat.le_trans (List.length_filterMap_le ..) (by rw [List.length_take]; exact Nat.min_le_right _ _)
section
variable {K : PySem.W.Frag} {a : Addr} {xs : List V} {g : TG} {tt : TT} {te : TE} {vs : List Nat} {σ : L2.St} {H1 : Hp} {D : Addr} {Qd : Hp → Prop}
/-- one turn, whatever follows -/
def Turn1 (g : TG) (tt : TT) (te : TE) (vs : List Nat) (σ : L2.St) (F : V → Option V) (x : V) (H : Hp) : Prop :=
  ∀ (G : V → Hp → Prop) (N : Hp → Prop), (F x = none → ∀ H', Same H H' → N H') → (∀ y, F x = some y → ∀ H', Same H H' → G y H') → g x (wipe σ vs) H fun σ2 H2 => wipe σ2 vs = wipe σ vs ∧ tt σ2 H2 fun b H3 => if b = true then te σ2 H3 G else N H3
theorem turn_fm {n : Nat} (F : V → Option V) (hn : xs.length < sizeLine) {i : Nat} {x : V} {H : Hp} {N1 : Hp → Prop} (hx : xs[i]? = some x) (hsame : Same H1 H) (hD1 : H1 D = none) (hD : H D = some (.lst (fm F (xs.take i)))) (t : Turn1 g tt te vs σ F x H)
    (nx : ∀ H', Same H1 H' → H' D = some (.lst (fm F (xs.take (i + 1)))) → N1 H') :
    g x (wipe σ vs) H fun σ2 H2 => wipe σ2 vs = wipe σ vs ∧ tt σ2 H2 fun b H3 => if b = true then te σ2 H3 fun y H4 => ∃ acc, H4 D = some (.lst acc) ∧ acc.length < sizeLine ∧ N1 (upd H4 D (.lst (acc ++ [y]))) else N1 H3 := by
  refine t _ _ (fun e H' s => ?_) (fun y e H' s => ?_)
  · refine nx H' (hsame.trans s) ?_
    rw [fm_succ hx, e, List.append_nil]
    exact s _ _ hD
  · refine ⟨_, s _ _ hD, Nat.lt_of_le_of_lt (fm_len F xs i) hn, nx _ (fun b o eb => ?_) ?_⟩
    · rw [upd_ne (ne_of_none eb hD1)]
      exact s _ _ (hsame _ _ eb)
    · rw [upd_same, fm_succ hx, e]
theorem lcL (F : V → Option V) (hl : SqL K H1 a xs) (hn : xs.length < sizeLine) (hD : H1 D = none) (t : ∀ x, x ∈ xs → ∀ H, Same H1 H → Turn1 g tt te vs σ F x H) (hd : ∀ H, Same H1 H → H D = some (.lst (fm F xs)) → Qd H) :
    ∃ W : Nat → Nat → Hp → Prop, (∃ m, W 0 m (upd H1 D (.lst []))) ∧ ∀ i m H, W i m H →
      ((Itl K a).stop i H ∧ Qd H) ∨ ((Itl K a).go i H ∧ ∃ Nx : Hp → Prop, (∀ H', Nx H' → ∃ m', m' < m ∧ W (i + 1) m' H') ∧ ∀ x H', (Itl K a).yld i H x H' → g x (wipe σ vs) H' fun σ2 H2 => wipe σ2 vs = wipe σ vs ∧ tt σ2 H2 fun b H3 =>
        if b = true then te σ2 H3 fun y H4 => ∃ acc, H4 D = some (.lst acc) ∧ acc.length < sizeLine ∧ Nx (upd H4 D (.lst (acc ++ [y]))) else Nx H3) :=
  lc_list (xs := xs) (fun i H => Same H1 H ∧ H D = some (.lst (fm F (xs.take i)))) ⟨same_new hD, upd_same⟩ (fun _ _ _ h => h.1.seq hl)
    (fun i x H hx h => turn_fm (n := 0) F hn hx h.1 hD h.2 (t x (List.mem_of_getElem? hx) H h.1) fun H' s d => ⟨s, d⟩) (fun H h => hd H h.1 (by rw [h.2, List.take_length]))
theorem lcT (F : V → Option V) (hl : SqT K H1 a xs) (hn : xs.length < sizeLine) (hD : H1 D = none) (t : ∀ x, x ∈ xs → ∀ H, Same H1 H → Turn1 g tt te vs σ F x H) (hd : ∀ H, Same H1 H → H D = some (.lst (fm F xs)) → Qd H) :
    ∃ W : Nat → Nat → Hp → Prop, (∃ m, W 0 m (upd H1 D (.lst []))) ∧ ∀ i m H, W i m H →
      ((Itt K a).stop i H ∧ Qd H) ∨ ((Itt K a).go i H ∧ ∃ Nx : Hp → Prop, (∀ H', Nx H' → ∃ m', m' < m ∧ W (i + 1) m' H') ∧ ∀ x H', (Itt K a).yld i H x H' → g x (wipe σ vs) H' fun σ2 H2 => wipe σ2 vs = wipe σ vs ∧ tt σ2 H2 fun b H3 =>
        if b = true then te σ2 H3 fun y H4 => ∃ acc, H4 D = some (.lst acc) ∧ acc.length < sizeLine ∧ Nx (upd H4 D (.lst (acc ++ [y]))) else Nx H3) :=
  lc_tup (xs := xs) (fun i H => Same H1 H ∧ H D = some (.lst (fm F (xs.take i)))) ⟨same_new hD, upd_same⟩ (fun _ _ _ h => same_t h.1 hl)
    (fun i x H hx h => turn_fm (n := 0) F hn hx h.1 hD h.2 (t x (List.mem_of_getElem? hx) H h.1) fun H' s d => ⟨s, d⟩) (fun H h => hd H h.1 (by rw [h.2, List.take_length]))
end
theorem fm_map (f : V → V) : ∀ xs : List V, fm (fun x => some (f x)) xs = xs.map f
  | [] => rfl
  | x :: xs => by
    show f x :: fm _ xs = f x :: xs.map f
    rw [fm_map f xs]
/-- types of what stands in lists and tuples -/
theorem ty_l {K : PySem.W.Frag} {H : Hp} {a : Addr} {xs : List V} (h : SqL K H a xs) : TyX K H (.ref a) (.type "list") := by
  rcases h with (h | ⟨o, h⟩) | h
  · exact .base (.lst h)
  · exact .base (.frz h)
  · obtain ⟨o, its, n, hk, hc, _⟩ := h
    exact .kList hk hc
theorem ty_t {K : PySem.W.Frag} {H : Hp} {a : Addr} {xs : List V} (h : SqT K H a xs) : TyX K H (.ref a) (.type "tuple") := by
  rcases h with (h | ⟨o, h⟩) | h
  · exact .base (.tup h)
  · exact .fTuple h
  · obtain ⟨o, its, n, hk, hc, _⟩ := h
    exact .kTuple hk hc
end G0

namespace G0
open PySem PySem.Spec PyProof.Rows L2
/-! ### any(xs), xs ints in a list or a tuple -/
theorem truths {prog : Program} {w : World} {A : Around} : ∀ {ns : List Int} {its : List Value}, Vals (ns.map V.int) its → TruthOf prog w A (fun i v => its.toArray[i]? = some v) (fun i => ns.getD i 0 != 0) := by
  intro ns its rv i v s Q E hv hq
  have hv' : its[i]? = some v := by simpa using hv
  have look : ∀ {ms : List Int} {us : List Value} {j : Nat}, Vals (ms.map V.int) us → us[j]? = some v → ∃ n t, ms[j]? = some n ∧ v = .int n t := by
    intro ms
    induction ms with
    | nil =>
      intro us j r h
      cases r
      cases h
    | cons m ms ih =>
      intro us j r h
      cases r with
      | cons r1 r2 =>
        cases j with
        | zero =>
          obtain ⟨t, rfl⟩ := r1
          cases h
          exact ⟨m, t, rfl, rfl⟩
        | succ j => exact ih r2 h
  obtain ⟨n, t, hn, rfl⟩ := look rv hv'
  have hg : ns.getD i 0 = n := by
    rw [List.getD_eq_getElem?_getD, hn]
    rfl
  have hq2 : Q (ns.getD i 0 != 0) s := hq
  rw [hg] at hq2
  exact PyProof.Rows.truthy_int hq2
theorem any_ints : ∀ ns : List Int, ((List.range ns.length).any fun i => ns.getD i 0 != 0) = ns.any fun n => n != 0
  | [] => rfl
  | n :: ns => by
    rw [List.length_cons, List.range_succ_eq_map, List.any_cons, List.any_map, List.any_cons, ← any_ints ns]
    all_goals rfl
section
variable {X : Cx}
def rAnyI (K : PySem.W.Frag) : List V → Hp → VK → Prop := fun vs H Q => ∃ (a : Addr) (ns : List Int), vs = [V.ref a] ∧ Sq K H a (ns.map V.int) ∧ Q (.bl (ns.any fun n => n != 0)) H
theorem cr_anyI (calm : X.calm = true) : CallR X (.builtin "any") (rAnyI X.K) := by
  intro pn s σ H vs us Q J r h
  obtain ⟨a, ns, rfl, hs, q⟩ := h
  rw [Vals.ref1 r]
  rcases hs with hs | hs
  · obtain ⟨its, rv, hl, _⟩ := J.list hs
    have lv := rv.length
    refine call_any_walk (iter_any hl.isList fun s2 e2 st hne => ?_)
    subst e2
    refine ⟨_, _, _, _, _, _, _, rfl, Walks.list (A := X.A.in1) (J.ok.hd calm) _ a hne its.toArray, st, truths rv, fun h2 tk hk => ?_⟩
    refine ⟨.bl _, H, J.kept fun b o eo => hk b o (fun mem => ?_) (Heap.get?_push_of_some _ eo), ?_, q⟩
    · rcases List.mem_cons.mp mem with e1 | mem
      · exact absurd (e1 ▸ Heap.lt_size eo) (Nat.lt_irrefl _)
      · cases mem
    · rw [List.size_toArray, ← lv, List.length_map, any_ints]
      rfl
  · obtain ⟨its, rv, hl, _⟩ := J.tuple hs
    have lv := rv.length
    obtain ⟨o1, ho1, hc1, n1, hd1⟩ := hl
    have hT : s.heap.IsTuple a its.toArray := ⟨o1, ho1, hc1, n1, hd1⟩
    have hlt : a < s.heap.objs.size := Heap.lt_size ho1
    refine call_any_walk (wpAny_pyIter_tuple hT ?_)
    refine ⟨_, _, _, _, _, _, _, rfl, Walks.tuple (A := X.A.in1) (J.ok.hd calm) _ a (Nat.ne_of_lt hlt) its.toArray, ⟨⟨_, Heap.get?_push_size _ rfl, rfl, rfl⟩, hT.push _⟩, truths rv, fun h2 tk hk => ?_⟩
    refine ⟨.bl _, H, J.kept fun b o eo => hk b o (fun mem => ?_) (Heap.get?_push_of_some _ eo), ?_, q⟩
    · rcases List.mem_cons.mp mem with e1 | mem
      · exact absurd (e1 ▸ Heap.lt_size eo) (Nat.lt_irrefl _)
      · cases mem
    · rw [List.size_toArray, ← lv, List.length_map, any_ints]
      rfl
end
end G0

namespace G0
open PySem PySem.Spec PyProof.Rows L2
/-! ### walks over a list (true) or a tuple (false): enumerate, zip of two, of three -/
def SqK (b : Bool) (K : PySem.W.Frag) (H : Hp) (a : Addr) (xs : List V) : Prop := match b with | true => SqL K H a xs | false => SqT K H a xs
theorem Sq.kind {K : PySem.W.Frag} {H : Hp} {a : Addr} {xs : List V} (h : Sq K H a xs) : ∃ b, SqK b K H a xs := h.elim (fun h => ⟨true, h⟩) (fun h => ⟨false, h⟩)
theorem SqK.sq {b : Bool} {K : PySem.W.Frag} {H : Hp} {a : Addr} {xs : List V} (h : SqK b K H a xs) : Sq K H a xs := by
  cases b with
  | true => exact .inl h
  | false => exact .inr h
theorem SqK.same {b : Bool} {K : PySem.W.Frag} {H H' : Hp} {a : Addr} {xs : List V} (e : Same H H') (h : SqK b K H a xs) : SqK b K H' a xs := by
  cases b with
  | true => exact e.seq h
  | false => exact same_t e h
def IterK (b : Bool) (h : Heap) (it a : Addr) (i : Nat) : Prop := match b with | true => h.IsListIter it a i | false => h.IsTupleIter it a i
def IsK (b : Bool) (h : Heap) (a : Addr) (items : Array Value) : Prop := match b with | true => h.IsList a items | false => h.IsTuple a items
def iterO (b : Bool) (a : Addr) : Obj := match b with
  | true => { cls := .type "list_iterator", data := .fields #[.ref a, .int 0 0] }
  | false => { cls := .type "tuple_iterator", data := .fields #[.ref a, .int 0 0] }
theorem draw_K {prog : Program} {w : World} {A : Around} (calm : A.handled = none) (b : Bool) (it a : Addr) (ne : a ≠ it) (items : Array Value) :
    Draws prog w A it [it, a] items.size (fun i v => items[i]? = some v) (fun i h => IterK b h it a i ∧ IsK b h a items) := by
  cases b with
  | true => exact Draws.list calm it a ne items
  | false => exact Draws.tuple calm it a ne items
theorem begin_K (b : Bool) (a : Addr) (items : Array Value) : Begins (.ref a) (iterO b a) fun h => IsK b h a items := by
  cases b with
  | true => exact begins_list a items
  | false => exact begins_tuple a items
theorem iter_K {b : Bool} {h : Heap} {it a : Addr} (e : h.get? it = some (iterO b a)) : IterK b h it a 0 := by
  cases b with
  | true => exact ⟨_, e, rfl, rfl⟩
  | false => exact ⟨_, e, rfl, rfl⟩
theorem IterK.obj {b : Bool} {h : Heap} {it a : Addr} {i : Nat} (e : IterK b h it a i) : ∃ o, h.get? it = some o ∧ ∀ v, o.data ≠ .cell v := by
  cases b with
  | true =>
    obtain ⟨o, h1, _, h3⟩ := (show h.IsListIter it a i from e)
    exact ⟨o, h1, fun v q => by rw [h3] at q; cases q⟩
  | false =>
    obtain ⟨o, h1, _, h3⟩ := (show h.IsTupleIter it a i from e)
    exact ⟨o, h1, fun v q => by rw [h3] at q; cases q⟩
theorem IterK.keep {b : Bool} {h h' : Heap} {it a : Addr} {i : Nat} (e : IterK b h it a i) (k : ∀ o, h.get? it = some o → h'.get? it = some o) : IterK b h' it a i := by
  cases b with
  | true =>
    obtain ⟨o, h1, h2, h3⟩ := (show h.IsListIter it a i from e)
    exact ⟨o, k o h1, h2, h3⟩
  | false =>
    obtain ⟨o, h1, h2, h3⟩ := (show h.IsTupleIter it a i from e)
    exact ⟨o, k o h1, h2, h3⟩
section
variable {X : Cx} {pins : List (Addr × Obj)} {σ : L2.St} {H : Hp} {s : Shared}
theorem seq_K {b : Bool} {a : Addr} {xs : List V} (J : Inv X pins σ H s) (h : SqK b X.K H a xs) : ∃ its : List Value, Vals xs its ∧ IsK b s.heap a its.toArray ∧ a < s.heap.objs.size := by
  cases b with
  | true =>
    obtain ⟨its, rv, pl, _⟩ := J.list h
    obtain ⟨o, h1, h2⟩ := pl.isList
    exact ⟨its, rv, pl.isList, Heap.lt_size h1⟩
  | false =>
    obtain ⟨its, rv, ⟨o, h1, h2, n, h3⟩, _⟩ := J.tuple h
    exact ⟨its, rv, ⟨o, h1, h2, n, h3⟩, Heap.lt_size h1⟩
theorem inj_K {b : Bool} {a : Addr} {xs ys : List V} (J : Inv X pins σ H s) (h1 : SqK b X.K H a xs) (h2 : SqK b X.K H a ys) : xs = ys := by
  cases b with
  | true => exact J.list_inj h1 h2
  | false => exact J.tuple_inj h1 h2
/-- the i-th item of what stands at a -/
theorem item_K {b : Bool} {a : Addr} {xs : List V} {its : List Value} {i : Nat} {u : Value} {x : V} (rv : Vals xs its) (hu : its.toArray[i]? = some u) (hx : xs[i]? = some x) : RelV x u := by
  obtain ⟨u', hu', ru⟩ := rv.get hx
  have : its[i]? = some u := by simpa using hu
  rw [this] at hu'
  cases hu'
  exact ru
end
/-- enumerate -/
def ItE (b : Bool) (K : PySem.W.Frag) (a : Addr) : It :=
  ⟨fun i H => ∃ (xs : List V) (x : V), SqK b K H a xs ∧ xs[i]? = some x, fun i H v H' => ∃ T x, v = .ref T ∧ H T = none ∧ H' = upd H T (.tup [.int (i : Nat), x]) ∧ ∀ xs, SqK b K H a xs → xs[i]? = some x, fun i H => ∃ xs : List V, SqK b K H a xs ∧ xs.length = i⟩
theorem turn_E {P : Program} {w : World} {K : PySem.W.Frag} {elts : List Expr} {kk : Nat} {tpos : Pos} (b : Bool) (a e it : Addr) (hae : a ≠ e) (hai : a ≠ it) (hei : e ≠ it) :
    Turn P w K (.Tuple elts kk tpos) (ItE b K a) [e, it] e (fun i h => (∃ old, IsEnum h e it ((i : Nat) : Int) old) ∧ IterK b h it a i) where
  mem := by simp
  obj := fun i h st c mem => by
    obtain ⟨⟨old, he⟩, hi⟩ := st
    rcases List.mem_cons.mp mem with q | mem
    · rw [q]
      exact ⟨_, he, fun v z => nomatch z⟩
    · rw [List.mem_singleton.mp mem]
      exact hi.obj
  keep := fun i h h' st k => by
    obtain ⟨⟨old, he⟩, hi⟩ := st
    exact ⟨⟨old, k e (by simp) _ he⟩, hi.keep (k it (by simp))⟩
  item := by
    rintro X rfl rfl rfl hc i pins s σ H E J hf ⟨⟨old, he⟩, hit⟩ ⟨xs, x, hq, hx⟩
    obtain ⟨its, rv, isK, alt⟩ := seq_K J hq
    have elt : e < s.heap.objs.size := Heap.lt_size he
    have ilt : it < s.heap.objs.size := by
      obtain ⟨_, q, _⟩ := hit.obj
      exact Heap.lt_size q
    have len := rv.length
    have ib : i < its.toArray.size := by
      have := (List.getElem?_eq_some_iff.mp hx).1
      simp
      omega
    refine wpAny_pyNext_enum_itemD (draw_K (A := X.A.in1) (J.ok.hd hc) b it a hai its.toArray) he ⟨hit, isK⟩ ib hei (by simp [hei, hae.symm]) fun u h2 tk hu out st2 hT hsz kept => ?_
    refine ⟨_, rfl, wpAny_letOwnedTupleGo_enum (s := { s with heap := h2, toks := tk + 1 }) out fun h3 he3 but => ?_⟩
    have hT3 : h3.get? s.heap.objs.size = some { cls := .type "tuple", data := .seq #[.int i tk, u] } := (but.2 _ (Nat.ne_of_gt elt)).trans hT
    have ru : RelV x u := item_K (b := b) (a := a) rv hu hx
    have fresh : ObjOk X.prog X.w (upd H s.heap.objs.size (.tup [.int (i : Nat), x])) h3 s.heap.objs.size (.tup [.int (i : Nat), x]) :=
      ⟨by show 2 ≤ sizeLine; decide, [.int i tk, u], .cons ⟨_, rfl⟩ (.cons ru .nil), ⟨_, hT3, rfl, _, rfl⟩⟩
    have J3 : Inv X pins σ (upd H s.heap.objs.size (.tup [.int (i : Nat), x])) { s with heap := h3, toks := tk + 1 } :=
      J.turnedNew (ch := [e, it]) (fun c o no q => (but.2 c (fun z => no (by simp [z]))).trans (kept c o (fun z => no (by simp [z])) (fun z => no (by simp [z])) q)) hf (Nat.le_refl _) fresh
    refine ⟨.ref s.heap.objs.size, _, J3, rfl, ⟨_, x, rfl, J.hok.fresh (Nat.le_refl _), rfl, fun ys hy => by rw [inj_K J hy hq]; exact hx⟩, ⟨⟨u, ?_⟩, st2.1.keep fun o q => (but.2 it hei.symm).trans q⟩, fun c mem => ?_⟩
    · have e1 : ((i + 1 : Nat) : Int) = (i : Int) + 1 := by omega
      rw [e1]
      exact he3
    · have lt : c < s.heap.objs.size := by
        rcases List.mem_cons.mp mem with q | mem2
        · rw [q]
          exact elt
        · rw [List.mem_singleton.mp mem2]
          exact ilt
      rw [upd_ne (Nat.ne_of_lt lt)]
      exact (hf c mem).1
  done := by
    rintro X rfl rfl rfl hc i pins s σ H E J hf ⟨⟨old, he⟩, hit⟩ ⟨xs, hq, rfl⟩
    obtain ⟨its, rv, isK, alt⟩ := seq_K J hq
    have len := rv.length
    have es : its.toArray.size = xs.length := by
      rw [List.size_toArray]
      omega
    refine wpAny_pyNext_enum_endD (draw_K (A := X.A.in1) (J.ok.hd hc) b it a hai its.toArray) he (by rw [es]; exact ⟨hit, isK⟩) fun h2 but => ⟨rfl, ?_⟩
    obtain ⟨f0, f1, f2, f3, f4, f5⟩ := hf it (by simp)
    exact J.turned (t' := s.toks) (fun c o no q => but c o no q) f0 f1 f3 f4 f5
  self := fun A i s Q E st h => by
    obtain ⟨⟨_, he⟩, _⟩ := st
    exact wpAny_pyIter_enum he h
theorem enum_new_T {t : Addr} {items : Array Value} : Meets (Builtin.«enumerate.__new__» ⟨[.type "enumerate", .ref t], []⟩) (fun _ R s => s.heap.IsTuple t items ∧
      R (.ok (.ret (.ref (s.heap.push (iterO false t)).objs.size))) { s with heap := (s.heap.push (iterO false t)).push { cls := .type "enumerate", data := .fields #[.none, .bool false, .ref s.heap.objs.size, rawInt 0, .none, .none] } }) := by
  refine .of_wp ?_
  rintro prog w A R ⟨hp, gs, dr, tk, os⟩ ⟨isT, want⟩
  have sub := sub_enumerate
  have it1 : ∀ {A' : Around} {E : Value → Shared → Prop} {Q : Value → Shared → Prop}, Q (.ref hp.objs.size) ⟨hp.push (iterO false t), gs, dr, tk, os⟩ → wpAny (model prog w) A' (pyIter (.ref t)) Q E ⟨hp, gs, dr, tk, os⟩ :=
    fun q => wpAny_pyIter_tuple isT q
  wp_walk using it1
  apply wpAny_stack_any
  intro st
  apply wpAny_pure
  split
  · rename_i c _ _ _ _ _
    cases (c == Value.type "enumerate")
    · wp_walk using it1
      exact ⟨_, rfl, want⟩
    · wp_walk using it1
      exact ⟨_, rfl, want⟩
  · wp_walk using it1
    exact ⟨_, rfl, want⟩
theorem called_enum {b : Bool} {a : Addr} {items : Array Value} {prog : Program} {w : World} {A : Around} {E : Value → Shared → Prop} {s : Shared} {Q : Value → Shared → Prop} (h1 : IsK b s.heap a items)
    (k : ∀ h2, IsEnum h2 (s.heap.objs.size + 1) s.heap.objs.size 0 .none → IterK b h2 s.heap.objs.size a 0 → h2.objs.size = s.heap.objs.size + 2 → (∀ c o, s.heap.get? c = some o → h2.get? c = some o) → Q (.ref (s.heap.objs.size + 1)) { s with heap := h2 }) :
    wpAny (model prog w) A (call (.type "enumerate") [.ref a]) Q E s := by
  cases b with
  | true => exact call_enumerate_list h1 fun h2 x1 x2 x3 x4 => k h2 x1 x2 x3 x4
  | false =>
    refine callType_new F.called_enumerate (by decide) (F.typeCall_enumerate_1 _) (F.newCall_enumerate_1 _) (fun ob => F.args_object_init_2 ob _) F.entry_enumerate_new enum_new_T ⟨h1, ?_⟩
    have z1 : (s.heap.push (iterO false a)).objs.size = s.heap.objs.size + 1 := Heap.size_push ..
    show _ ∧ _
    rw [z1]
    have gE : IsEnum ((s.heap.push (iterO false a)).push { cls := .type "enumerate", data := .fields #[.none, .bool false, .ref s.heap.objs.size, rawInt 0, .none, .none] }) (s.heap.objs.size + 1) s.heap.objs.size 0 .none := by
      have top1 := Heap.get?_push_size (s.heap.push (iterO false a)) (o := { cls := .type "enumerate", data := .fields #[.none, .bool false, .ref s.heap.objs.size, rawInt 0, .none, .none] }) rfl
      rw [z1] at top1
      exact top1
    refine ⟨⟨_, gE, rfl⟩, k _ gE ?_ ?_ ?_⟩
    · exact iter_K (b := false) (Heap.get?_push_of_some _ (Heap.get?_push_size _ rfl))
    · rw [Heap.size_push, z1]
    · intro c o q
      exact Heap.get?_push_of_some _ (Heap.get?_push_of_some _ q)
/-- enumerate(e) of a list or a tuple -/
def iE (b : Bool) (K : PySem.W.Frag) (ta : TA) : TI := fun σ H R => ta σ H fun vs H1 => ∃ a xs, vs = [.ref a] ∧ SqK b K H1 a xs ∧ R (ItE b K a) H1
theorem pi_E (b : Bool) {X : Cx} {e : Expr} {ta : TA} {p pos tpos : Pos} {elts : List Expr} {kk : Nat} (gl : Gl X "enumerate") (no : X.mg "enumerate" = none) (pa : PA X [e] ta) (st : starEach [e] X.env = [(false, eval e X.env)] := by rfl) :
    PI X (.Tuple elts kk tpos) (.Call (.Name "enumerate" p) [e] [] pos) (iE b X.K ta) := by
  constructor
  intro pins s σ H R J want
  refine Call_ (ld_blt J gl no boot_enumerate (PyProof.Rows.callWith_type1 (thn (pa.run pos pins s σ H _ J want) ?_) st rfl))
  rintro us s1 ⟨vs, H1, J1, r1, a, xs, rfl, hq, q⟩
  obtain ⟨u, rfl, ru⟩ := vals1 r1
  cases ru
  obtain ⟨its, rv, isK, alt⟩ := seq_K J1 hq
  refine called_enum isK fun h2 he hit _ kept => wpAny_pyIter_enum he ?_
  have J2 : Inv X pins σ H1 { s1 with heap := h2 } := J1.kept (t' := s1.toks) kept
  refine ⟨s1.heap.objs.size + 1, [s1.heap.objs.size + 1, s1.heap.objs.size], _, _, H1, rfl, J2, turn_E b a (s1.heap.objs.size + 1) s1.heap.objs.size (Nat.ne_of_lt (Nat.lt_succ_of_lt alt)) (Nat.ne_of_lt alt) (Nat.succ_ne_self _), ⟨⟨.none, he⟩, hit⟩, fun c mem => ?_, q⟩
  have le : s1.heap.objs.size ≤ c := by
    rcases List.mem_cons.mp mem with z | mem2
    · rw [z]
      exact Nat.le_succ _
    · rw [List.mem_singleton.mp mem2]
      exact Nat.le_refl _
  exact J1.fpOk le (J1.hok.fresh le)
theorem walk_E {b : Bool} {K : PySem.W.Frag} {a : Addr} {xs : List V} : Walk (ItE b K a) xs.length (fun H => SqK b K H a xs) (YPair (fun i => some (.int (i : Nat))) (fun i => xs[i]?)) := by
  refine ⟨fun i _ hi q => ⟨xs, xs[i], q, by simp [hi]⟩, fun _ q => ⟨xs, q, rfl⟩, fun i H v H' _ q y => ?_⟩
  obtain ⟨T, x, h1, h2, h3, h4⟩ := y
  exact ⟨T, .int (i : Nat), x, h1, h2, h3, rfl, h4 xs q⟩
end G0

namespace G0
open PySem PySem.Spec PyProof.Rows L2
def top (i : Nat) : Stmt := PySem.Challenge.pw_pointrows_k23_any_value_as_point_or_tabl.main.body.getD i (.Pass ⟨0, 0, 0, 0⟩)
abbrev s_is_integer : Stmt := top 3
abbrev s_is_list : Stmt := top 4
abbrev s_divisor : Stmt := top 10
abbrev s_plain : Stmt := top 11
abbrev s_is_three : Stmt := top 13
abbrev s_is_point : Stmt := top 20
abbrev s_told_point : Stmt := top 21

/-- a def of the top: where it stands, that its name tells it, how it binds -/
structure Df (K : PySem.W.Frag) (mg : Str → Option Value) (x : Str) (st : Stmt) (ps : List Str) (f : Addr) (fd : FuncData) : Prop where
  F : Fun K x x st f fd
  g : mg x = some (.ref f)
  b : Binds K fd ps []
theorem pdf {X : Cx} {k : Nat} {f : Addr} {fd : FuncData} {ps : List Str} {sp : Sp} {x : Str} {st : Stmt} {p pos : Pos} {e : Expr} {es : List Expr} {t : TA} (D : Df X.K X.mg x st ps f fd) (G : FnOk X.prog X.w X.K X.mg X.base CX0 k f fd ps sp) (hr : Room k X.A) (ha : PA X (e :: es) t) (hg : Gl X x := by rfl)
    (hdb : (x == ("__debug__" : Str)) = false := by decide) (he : starEach (e :: es) X.env = (false, eval e X.env) :: starEach es X.env := by rfl) (hpl : (backTo pos (starEach es X.env)).any (·.1) = false := by rfl) :
    PE X (.Call (.Name x p) (e :: es) [] pos) (tCall sp [] E0 t) := pe_call G hr hg D.g D.F.kp D.b .nil pass0 ha hdb he hpl
/-- the built-in names are the built-in ones still -/
structure Blt (mg : Str → Option Value) : Prop where
  isinstance : mg "isinstance" = none
  int : mg "int" = none
  bool : mg "bool" = none
  list : mg "list" = none
  tuple : mg "tuple" = none
  len : mg "len" = none
  all : mg "all" = none
  any : mg "any" = none
  abs : mg "abs" = none
  max : mg "max" = none
  min : mg "min" = none
  divmod : mg "divmod" = none
  range : mg "range" = none
  repr : mg "repr" = none
  enumerate : mg "enumerate" = none

section
variable {P : Program} {w : World} {K : PySem.W.Frag} {mg : Str → Option Value} {base : Heap}
theorem pty {X : Cx} {x : Str} {p : Pos} {n : String} (hm : X.mg x = none) (hv : bootBuiltins x = some (.type n)) (hg : Gl X x := by rfl) (hn : x ≠ "__name__" := by decide) (hdb : (x == ("__debug__" : Str)) = false := by decide) : PE X (.Name x p) (tC (.ty n)) :=
  pe_bltn hg hm hv (show RelV (.ty n) (.type n) from rfl) hn hdb
theorem boot_isi : bootBuiltins "isinstance" = some (.builtin "isinstance") := by decide +kernel
theorem boot_tint : bootBuiltins "int" = some (.type "int") := by decide +kernel
theorem boot_tbool : bootBuiltins "bool" = some (.type "bool") := by decide +kernel
theorem boot_tlist : bootBuiltins "list" = some (.type "list") := by decide +kernel
theorem boot_ttuple : bootBuiltins "tuple" = some (.type "tuple") := by decide +kernel
theorem boot_all : bootBuiltins "all" = some (.builtin "all") := by decide +kernel
theorem boot_any : bootBuiltins "any" = some (.builtin "any") := by decide +kernel
theorem kit_ii : PySem.W.kitOne K (.type "int") (.type "int") = some true := kit_ty (by decide +kernel)
theorem kit_ib : PySem.W.kitOne K (.type "int") (.type "bool") = some false := kit_ty (by decide +kernel)
theorem kit_ll : PySem.W.kitOne K (.type "list") (.type "list") = some true := kit_ty (by decide +kernel)
theorem kit_tl : PySem.W.kitOne K (.type "tuple") (.type "list") = some false := kit_ty (by decide +kernel)
theorem kit_tt : PySem.W.kitOne K (.type "tuple") (.type "tuple") = some true := kit_ty (by decide +kernel)

/-! is_integer of an int -/
def sp_is_integer : Sp := fun vs H Q _ => ∃ n : Int, vs = [.int n] ∧ Q (.bl true) H
theorem sc_is_integer : FnScope ["value"] ["value"] (defScope s_is_integer) := ⟨rfl, rfl, rfl, by decide +kernel, rfl, by decide +kernel, by decide +kernel⟩
theorem ok_is_integer {f : Addr} {fd : FuncData} (F : Fun K "is_integer" "is_integer" s_is_integer f fd) (B : Blt mg) : FnOk P w K mg base CX0 1 f fd ["value"] sp_is_integer := by
  refine F.ok sc_is_integer (fun vs H Q E h => ?_) (fun cdv A outer s H vs Q E hr h => ?_)
  · obtain ⟨n, rfl, _⟩ := h
    rfl
  · obtain ⟨n, rfl, q⟩ := h
    refine ⟨_, pss_one (ps_ret (pe_and (pe_callB call_isi (by rfl) B.isinstance boot_isi (pa_cons (pv 0) (pa_cons (pty B.int boot_tint) pa_nil)))
      (pe_one (pe_not (pe_callB call_isi (by rfl) B.isinstance boot_isi (pa_cons (pv 0) (pa_cons (pty B.bool boot_tbool) pa_nil))))))), ?_⟩
    refine ⟨_, rfl, _, _, _, _, true, rfl, .ty "int", .base (.int n), kit_ii, true, rfl, iteT ?_⟩
    exact ⟨_, rfl, _, _, _, _, false, rfl, .ty "bool", .base (.int n), kit_ib, false, rfl, q⟩

/-! is_list of a list or a tuple -/
def sp_is_list (K : PySem.W.Frag) : Sp := fun vs H Q _ => ∃ (a : Addr) (xs : List V), vs = [.ref a] ∧ Sq K H a xs ∧ ∀ H', Same H H' → Q (.bl true) H'
theorem sc_is_list : FnScope ["value"] ["value"] (defScope s_is_list) := ⟨rfl, rfl, rfl, by decide +kernel, rfl, by decide +kernel, by decide +kernel⟩
theorem ok_is_list {f : Addr} {fd : FuncData} (F : Fun K "is_list" "is_list" s_is_list f fd) (B : Blt mg) : FnOk P w K mg base CX0 1 f fd ["value"] (sp_is_list K) := by
  refine F.ok sc_is_list (fun vs H Q E h => ?_) (fun cdv A outer s H vs Q E hr h => ?_)
  · obtain ⟨a, xs, rfl, _⟩ := h
    rfl
  · obtain ⟨a, xs, rfl, hs, q⟩ := h
    refine ⟨_, pss_one (ps_ret (pe_callB call_isiT (by rfl) B.isinstance boot_isi (pa_cons (pv 0) (pa_cons (pe_tup (pa_cons (pty B.list boot_tlist) (pa_cons (pty B.tuple boot_ttuple) pa_nil))) pa_nil)))), ?_⟩
    refine ⟨_, rfl, by show 2 ≤ sizeLine; decide, fun p hp => ?_⟩
    have s1 : Same H (upd H p (.tup [.ty "list", .ty "tuple"])) := same_new hp
    have q1 := q _ s1
    rcases hs with hs | hs
    · exact ⟨_, p, _, _, _, true, rfl, upd_same, .cons (.ty "list") (.cons (.ty "tuple") .nil), ty_l (s1.seq hs), kitAny_cons kit_ll (fun z => nomatch z) fun _ => rfl, q1⟩
    · exact ⟨_, p, _, _, _, true, rfl, upd_same, .cons (.ty "list") (.cons (.ty "tuple") .nil), ty_t (same_t s1 hs), kitAny_cons (r := true) kit_tl (fun _ => kitAny_cons kit_tt (fun z => nomatch z) fun _ => rfl) (fun z => nomatch z), q1⟩

/-! is_three of three ints -/
def sp_is_three (K : PySem.W.Frag) : Sp := fun vs H Q _ => ∃ (p : Addr) (a b c : Int), vs = [.ref p] ∧ Sq K H p ([a, b, c].map V.int) ∧ ∀ H', Same H H' → Q (.bl true) H'
theorem sc_is_three : FnScope ["value", "number"] ["value"] (defScope s_is_three) := ⟨rfl, rfl, rfl, by decide +kernel, rfl, by decide +kernel, by decide +kernel⟩
theorem ok_is_three {f f1 f2 : Addr} {fd fd1 fd2 : FuncData} (F : Fun K "is_three" "is_three" s_is_three f fd) (B : Blt mg) (D1 : Df K mg "is_integer" s_is_integer ["value"] f1 fd1) (D2 : Df K mg "is_list" s_is_list ["value"] f2 fd2) :
    FnOk P w K mg base CX0 2 f fd ["value"] (sp_is_three K) := by
  have G1 : FnOk P w K mg base CX0 1 f1 fd1 ["value"] sp_is_integer := ok_is_integer D1.F B
  have G2 : FnOk P w K mg base CX0 1 f2 fd2 ["value"] (sp_is_list K) := ok_is_list D2.F B
  refine F.ok sc_is_three (fun vs H Q E h => ?_) (fun cdv A outer s H vs Q E hr h => ?_)
  · obtain ⟨p, a, b, c, rfl, _⟩ := h
    rfl
  · obtain ⟨p, a, b, c, rfl, hs, q⟩ := h
    have turn : ∀ x, x ∈ [V.int a, V.int b, V.int c] → ∀ H1 : Hp, Turn1 (gName 1) tYes (tCall sp_is_integer [] E0 (tCons (tVar 1) tNil)) [1] [some (.ref p), none] (fun _ => some (.bl true)) x H1 := by
      intro x hx H1 G N h1 h2
      have hi : ∃ n, x = .int n := by
        simp only [List.mem_cons, List.not_mem_nil, or_false] at hx
        rcases hx with rfl | rfl | rfl <;> exact ⟨_, rfl⟩
      obtain ⟨n, rfl⟩ := hi
      refine ⟨rfl, iteT (B := N H1) ?_⟩
      exact ⟨_, rfl, n, rfl, h2 _ rfl _ (Same.refl _)⟩
    rcases hs with hs | hs
    · refine ⟨_, pss_one (ps_ret (pe_and (pdf D2 G2 hr (pa_cons (pv 0) pa_nil)) (pe_and (pe_cmpR op_eq (pe_callB call_len_seq (by rfl) B.len PySem.boot_len (pa_cons (pv 0) pa_nil)) pe_int (nomark _))
        (pe_one (pe_callB (cr_all rfl) (by rfl) B.all boot_all (pa_cons (pe_lc (own := [("number", 1)]) (g := gName 1) (tt := tYes) rfl sc_is_three.nd (pi_list (pv 0)) (blkOk_by (N := ["value", "number"]) (sc := defScope s_is_three) (by decide +kernel)) (fun _ _ _ _ _ => pg_name (i := 1) sc_is_three.nd rfl (Or.inl rfl))
          (fun _ _ _ _ _ => pts_nil) (fun _ _ _ _ _ => pdf D1 G1 hr (pa_cons (pv 1) pa_nil))) pa_nil)))))), ?_⟩
      refine ⟨_, rfl, p, _, rfl, .inl hs, fun H1 s1 => ⟨true, rfl, iteT ?_⟩⟩
      refine ⟨_, rfl, p, _, rfl, .inl (s1.seq hs), rfl, true, rfl, iteT ?_⟩
      refine ⟨_, rfl, p, rfl, ⟨_, s1.seq hs⟩, fun D hD => lcL (fun _ => some (.bl true)) (s1.seq hs) (by show 3 < sizeLine; decide) hD (fun x hx H2 _ => turn x hx H2) fun H2 s2 h2 => ?_⟩
      exact ⟨D, [true, true, true], rfl, SqL.mk h2, q _ (s1.trans s2)⟩
    · refine ⟨_, pss_one (ps_ret (pe_and (pdf D2 G2 hr (pa_cons (pv 0) pa_nil)) (pe_and (pe_cmpR op_eq (pe_callB call_len_seq (by rfl) B.len PySem.boot_len (pa_cons (pv 0) pa_nil)) pe_int (nomark _))
        (pe_one (pe_callB (cr_all rfl) (by rfl) B.all boot_all (pa_cons (pe_lc (own := [("number", 1)]) (g := gName 1) (tt := tYes) rfl sc_is_three.nd (pi_tup (pv 0)) (blkOk_by (N := ["value", "number"]) (sc := defScope s_is_three) (by decide +kernel)) (fun _ _ _ _ _ => pg_name (i := 1) sc_is_three.nd rfl (Or.inl rfl))
          (fun _ _ _ _ _ => pts_nil) (fun _ _ _ _ _ => pdf D1 G1 hr (pa_cons (pv 1) pa_nil))) pa_nil)))))), ?_⟩
      refine ⟨_, rfl, p, _, rfl, .inr hs, fun H1 s1 => ⟨true, rfl, iteT ?_⟩⟩
      refine ⟨_, rfl, p, _, rfl, .inr (same_t s1 hs), rfl, true, rfl, iteT ?_⟩
      refine ⟨_, rfl, p, rfl, ⟨_, same_t s1 hs⟩, fun D hD => lcT (fun _ => some (.bl true)) (same_t s1 hs) (by show 3 < sizeLine; decide) hD (fun x hx H2 _ => turn x hx H2) fun H2 s2 h2 => ?_⟩
      exact ⟨D, [true, true, true], rfl, SqL.mk h2, q _ (s1.trans s2)⟩
end
end G0

namespace G0
open PySem PySem.Spec PyProof.Rows L2
/-! ### the mathematics of told points -/
def gcdL (ns : List Int) : Int := ns.foldl (fun c n => ((Nat.gcd c.natAbs n.natAbs : Nat) : Int)) 0
def firstN (ns : List Int) : Int := (ns.filter fun n => decide (n ≠ 0)).headD 0
def signed (ns : List Int) : Int := if firstN ns < 0 then -gcdL ns else gcdL ns
def plainI (ns : List Int) : List Int := ns.map fun n => n.fdiv (signed ns)
theorem gcd_fold : ∀ (ns : List Int) (c : Int), 0 ≤ c → 0 ≤ ns.foldl (fun c n => ((Nat.gcd c.natAbs n.natAbs : Nat) : Int)) c ∧ (ns.foldl (fun c n => ((Nat.gcd c.natAbs n.natAbs : Nat) : Int)) c ∣ c) ∧ ∀ n ∈ ns, ns.foldl (fun c n => ((Nat.gcd c.natAbs n.natAbs : Nat) : Int)) c ∣ n
  | [], c, h => ⟨h, Int.dvd_refl c, fun _ z => nomatch z⟩
  | m :: ns, c, h => by
    obtain ⟨h1, h2, h3⟩ := gcd_fold ns ((Nat.gcd c.natAbs m.natAbs : Nat) : Int) (Int.natCast_nonneg _)
    have a1 : ((Nat.gcd c.natAbs m.natAbs : Nat) : Int) ∣ c := Int.ofNat_dvd_left.mpr (Nat.gcd_dvd_left _ _)
    have a2 : ((Nat.gcd c.natAbs m.natAbs : Nat) : Int) ∣ m := Int.ofNat_dvd_left.mpr (Nat.gcd_dvd_right _ _)
    refine ⟨h1, Int.dvd_trans h2 a1, fun n hn => ?_⟩
    rcases List.mem_cons.mp hn with rfl | hn
    · exact Int.dvd_trans h2 a2
    · exact h3 n hn
theorem gcdL_nonneg (ns : List Int) : 0 ≤ gcdL ns := (gcd_fold ns 0 (Int.le_refl _)).1
theorem gcdL_dvd {ns : List Int} {n : Int} (h : n ∈ ns) : gcdL ns ∣ n := (gcd_fold ns 0 (Int.le_refl _)).2.2 n h
theorem gcdL_pos {ns : List Int} (h : ∃ n ∈ ns, n ≠ 0) : 0 < gcdL ns := by
  obtain ⟨n, hn, h0⟩ := h
  have d := gcdL_dvd hn
  have p := gcdL_nonneg ns
  have ne : gcdL ns ≠ 0 := fun e => h0 (by rw [e] at d; exact Int.zero_dvd.mp d)
  omega
theorem gcdL_le {ns : List Int} {n : Int} (h : n ∈ ns) (h0 : n ≠ 0) : (gcdL ns).natAbs ≤ n.natAbs := Nat.le_of_dvd (Int.natAbs_pos.mpr h0) (Int.natAbs_dvd_natAbs.mpr (gcdL_dvd h))
theorem gcdL_take {ns : List Int} {i : Nat} {n : Int} (h : ns[i]? = some n) : gcdL (ns.take (i + 1)) = ((Nat.gcd (gcdL (ns.take i)).natAbs n.natAbs : Nat) : Int) := by
  unfold gcdL
  rw [List.take_add_one, h, List.foldl_append]
  rfl

abbrev at_int {ns : List Int} {i : Nat} {x : V} (h : (ns.map V.int)[i]? = some x) : ∃ n, ns[i]? = some n ∧ x = .int n := by
  rw [List.getElem?_map] at h
  cases e : ns[i]? with
  | none =>
    rw [e] at h
    cases h
  | some n =>
    rw [e] at h
    exact ⟨n, rfl, (Option.some.inj h).symm⟩
theorem mem_int {ns : List Int} {x : V} (h : x ∈ ns.map V.int) : ∃ n, n ∈ ns ∧ x = .int n := by
  obtain ⟨n, hn, e⟩ := List.mem_map.mp h
  exact ⟨n, hn, e.symm⟩
theorem fm_ints {F : V → Option V} {f : Int → Option Int} (h : ∀ n : Int, F (.int n) = (f n).map V.int) : ∀ ns : List Int, fm F (ns.map V.int) = (ns.filterMap f).map V.int
  | [] => rfl
  | n :: ns => by
    have ih := fm_ints h ns
    show (V.int n :: ns.map V.int).filterMap F = _
    unfold fm at ih
    rw [List.filterMap_cons, h n, List.filterMap_cons]
    cases f n with
    | none => exact ih
    | some m =>
      show V.int m :: _ = V.int m :: _
      rw [ih]
section
variable {P : Program} {w : World} {K : PySem.W.Frag} {mg : Str → Option Value} {base : Heap}
/-! divisor -/
def sp_divisor (K : PySem.W.Frag) : Sp := fun vs H Q _ => ∃ (p : Addr) (ns : List Int), vs = [.ref p] ∧ Sq K H p (ns.map V.int) ∧ Q (.int (gcdL ns)) H
theorem sc_divisor : FnScope ["numbers", "common", "number"] ["numbers"] (defScope s_divisor) := ⟨rfl, rfl, rfl, by decide +kernel, rfl, by decide +kernel, by decide +kernel⟩
theorem ok_divisor {f : Addr} {fd : FuncData} (F : Fun K "divisor" "divisor" s_divisor f fd) (hG : mg "gcd" = some (.builtin "math.gcd")) : FnOk P w K mg base CX0 1 f fd ["numbers"] (sp_divisor K) := by
  refine F.ok sc_divisor (fun vs H Q E h => ?_) (fun cdv A outer s H vs Q E hr h => ?_)
  · obtain ⟨p, ns, rfl, _⟩ := h
    rfl
  · obtain ⟨p, ns, rfl, hs, q⟩ := h
    have step : ∀ (i : Nat) (x : V) (σ : L2.St) (H1 : Hp) (N : L2.St → Hp → Prop), (ns.map V.int)[i]? = some x → (∃ y, σ = [some (.ref p), some (.int (gcdL (ns.take i))), y] ∧ H1 = H) → (∀ σ2 H2, (∃ y, σ2 = [some (.ref p), some (.int (gcdL (ns.take (i + 1)))), y] ∧ H2 = H) → N σ2 H2) →
        gName 2 x σ H1 fun σ2 H2 => (tCB rGcd (tCons (tVar 1) (tCons (tVar 2) tNil))) σ2 H2 fun v H3 => N (σ2.set 1 (some v)) H3 := by
      rintro i x σ H1 N hx ⟨y, rfl, rfl⟩ k
      obtain ⟨n, hn, rfl⟩ := at_int hx
      refine ⟨_, rfl, _, rfl, _, _, rfl, k _ _ ⟨some (.int n), ?_, rfl⟩⟩
      rw [gcdL_take hn]
      rfl
    rcases hs with hs | hs
    · refine ⟨_, pss_cons (ps_set (i := 1) sc_divisor.nd rfl (Or.inl rfl) pe_int) (pss_cons (ps_for PassesOwn.never rfl (pi_list (pv 0)) (pg_name (i := 2) sc_divisor.nd rfl (Or.inl rfl))
        (pss_one (ps_set (i := 1) sc_divisor.nd rfl (Or.inl rfl) (pe_callBfun cr_gcd (by rfl) hG (pa_cons (pv 1) (pa_cons (pv 2) pa_nil)))))) (pss_one (ps_ret (pv 1)))), ?_⟩
      refine ⟨_, rfl, p, rfl, ⟨_, hs⟩, for_list (K := K) (a := p) (xs := ns.map V.int) (fun i σ H1 => ∃ y, σ = [some (.ref p), some (.int (gcdL (ns.take i))), y] ∧ H1 = H) ⟨none, rfl, rfl⟩ ?_ ?_ ?_⟩
      · rintro i σ H1 _ ⟨y, rfl, rfl⟩
        exact hs
      · intro i x σ H1 hx h
        exact step i x σ H1 _ hx h fun σ2 H2 h2 => h2
      · rintro σ H1 ⟨y, rfl, rfl⟩
        rw [List.length_map, List.take_length]
        exact ⟨_, rfl, q⟩
    · refine ⟨_, pss_cons (ps_set (i := 1) sc_divisor.nd rfl (Or.inl rfl) pe_int) (pss_cons (ps_for PassesOwn.never rfl (pi_tup (pv 0)) (pg_name (i := 2) sc_divisor.nd rfl (Or.inl rfl))
        (pss_one (ps_set (i := 1) sc_divisor.nd rfl (Or.inl rfl) (pe_callBfun cr_gcd (by rfl) hG (pa_cons (pv 1) (pa_cons (pv 2) pa_nil)))))) (pss_one (ps_ret (pv 1)))), ?_⟩
      refine ⟨_, rfl, p, rfl, ⟨_, hs⟩, for_tup (K := K) (a := p) (xs := ns.map V.int) (fun i σ H1 => ∃ y, σ = [some (.ref p), some (.int (gcdL (ns.take i))), y] ∧ H1 = H) ⟨none, rfl, rfl⟩ ?_ ?_ ?_⟩
      · rintro i σ H1 _ ⟨y, rfl, rfl⟩
        exact hs
      · intro i x σ H1 hx h
        exact step i x σ H1 _ hx h fun σ2 H2 h2 => h2
      · rintro σ H1 ⟨y, rfl, rfl⟩
        rw [List.length_map, List.take_length]
        exact ⟨_, rfl, q⟩
end
end G0

namespace G0
open PySem PySem.Spec PyProof.Rows L2
section
variable {P : Program} {w : World} {K : PySem.W.Frag} {mg : Str → Option Value} {base : Heap}
/-! plain -/
def nz (ns : List Int) : List Int := ns.filter fun n => decide (n ≠ 0)
theorem nz_fm (ns : List Int) : (ns.filterMap fun n => if n ≠ 0 then some n else none) = nz ns := by
  unfold nz
  induction ns with
  | nil => rfl
  | cons n ns ih =>
    by_cases h : n = 0
    · subst h
      rw [List.filterMap_cons, if_neg (by simp), List.filter_cons_of_neg (by simp)]
      exact ih
    · rw [List.filterMap_cons, if_pos h, List.filter_cons_of_pos (by simpa using h)]
      show n :: _ = n :: _
      rw [ih]
theorem nz_head {ns : List Int} (h : ∃ n ∈ ns, n ≠ 0) : (nz ns)[0]? = some (firstN ns) ∧ firstN ns ∈ ns ∧ firstN ns ≠ 0 := by
  obtain ⟨n, hn, h0⟩ := h
  have hm : n ∈ nz ns := List.mem_filter.mpr ⟨hn, by simpa using h0⟩
  unfold firstN
  show (nz ns)[0]? = some ((nz ns).headD 0) ∧ (nz ns).headD 0 ∈ ns ∧ (nz ns).headD 0 ≠ 0
  cases e : nz ns with
  | nil =>
    rw [e] at hm
    cases hm
  | cons m r =>
    have hm2 : m ∈ nz ns := by
      rw [e]
      exact List.mem_cons_self
    obtain ⟨a1, a2⟩ := List.mem_filter.mp hm2
    exact ⟨rfl, a1, by simpa using a2⟩
theorem fmap_some {α β : Type} (f : α → β) : ∀ xs : List α, (xs.filterMap fun x => some (f x)) = xs.map f
  | [] => rfl
  | x :: xs => by
    rw [List.filterMap_cons]
    show f x :: _ = f x :: _
    rw [fmap_some f xs]
theorem signed_le {ns : List Int} (h : ∃ n ∈ ns, n ≠ 0) (hb : ∀ n ∈ ns, n.natAbs < 2 ^ 30) : signed ns ≠ 0 ∧ (signed ns).natAbs < 1073741824 := by
  have p := gcdL_pos h
  obtain ⟨n, hn, h0⟩ := h
  have l := gcdL_le hn h0
  have b := hb n hn
  have e30 : (2 : Nat) ^ 30 = 1073741824 := rfl
  unfold signed
  split <;> omega
def sp_plain (K : PySem.W.Frag) : Sp := fun vs H Q _ => ∃ (p : Addr) (ns : List Int), vs = [.ref p] ∧ Sq K H p (ns.map V.int) ∧ (∃ n ∈ ns, n ≠ 0) ∧ (∀ n ∈ ns, n.natAbs < 2 ^ 30) ∧ ns.length ≤ 1000 ∧
  ∀ H' q, Same H H' → H q = none → H' q = some (.lst ((plainI ns).map V.int)) → Q (.ref q) H'
theorem sc_plain : FnScope ["numbers", "common", "first", "number"] ["numbers"] (defScope s_plain) := ⟨rfl, rfl, rfl, by decide +kernel, rfl, by decide +kernel, by decide +kernel⟩
theorem ok_plain {f f1 : Addr} {fd fd1 : FuncData} (F : Fun K "plain" "plain" s_plain f fd) (hG : mg "gcd" = some (.builtin "math.gcd")) (D1 : Df K mg "divisor" s_divisor ["numbers"] f1 fd1) : FnOk P w K mg base CX0 2 f fd ["numbers"] (sp_plain K) := by
  have G1 : FnOk P w K mg base CX0 1 f1 fd1 ["numbers"] (sp_divisor K) := ok_divisor D1.F hG
  refine F.ok sc_plain (fun vs H Q E h => ?_) (fun cdv A outer s H vs Q E hr h => ?_)
  · obtain ⟨p, ns, rfl, _⟩ := h
    rfl
  · obtain ⟨p, ns, rfl, hs, hz, hb, hl, q⟩ := h
    have hlen : (ns.map V.int).length < sizeLine := by
      rw [List.length_map]
      exact Nat.lt_of_le_of_lt hl (by decide)
    obtain ⟨hh, hmem, hne⟩ := nz_head hz
    obtain ⟨c0, cb⟩ := signed_le hz hb
    let FN : V → Option V := fun x => match x with | .int n => if n ≠ 0 then some (.int n) else none | _ => none
    let FD : V → Option V := fun x => match x with | .int n => some (.int (n.fdiv (signed ns))) | _ => none
    have fd : fm FD (ns.map V.int) = (plainI ns).map V.int := by
      rw [fm_ints (f := fun n => some (n.fdiv (signed ns))) (fun _ => rfl), fmap_some]
      rfl
    have at0 : atI (fm FN (ns.map V.int)) 0 = some (.int (firstN ns)) := by
      rw [fm_ints (f := fun n => if n ≠ 0 then some n else none) (fun n => by by_cases h0 : n = 0 <;> simp [FN, h0]), nz_fm]
      refine atI_nat (j := 0) ?_
      rw [List.getElem?_map, hh]
      rfl
    have t1 : ∀ x, x ∈ ns.map V.int → ∀ H1 : Hp, Turn1 (gName 3) (tTest (tOp rNe (tVar 3) (tC (.int 0)))) (tVar 3) [3] [some (.ref p), some (.int (gcdL ns)), none, none] FN x H1 := by
      intro x hx H1 G N g1 g2
      obtain ⟨n, hn, rfl⟩ := mem_int hx
      refine ⟨rfl, ?_⟩
      refine ⟨_, rfl, rfl, _, rfl, ?_⟩
      by_cases h0 : n = 0
      · subst h0
        exact g1 (by simp [FN]) _ (Same.refl _)
      · have hd : (!decide (V.int n = V.int 0)) = true := by simp [h0]
        rw [hd]
        exact iteT ⟨_, rfl, g2 _ (by simp [FN, h0]) _ (Same.refl _)⟩
    have t2 : ∀ c : Int, signed ns = c → ∀ x, x ∈ ns.map V.int → ∀ H1 : Hp, Turn1 (gName 3) tYes (tOp (rI CDivN fun i j => .int (i.fdiv j)) (tVar 3) (tVar 1)) [3] [some (.ref p), some (.int c), some (.int (firstN ns)), none] FD x H1 := by
      intro c hc x hx H1 G N g1 g2
      obtain ⟨n, hn, rfl⟩ := mem_int hx
      refine ⟨rfl, iteT (B := N H1) ?_⟩
      exact ⟨_, rfl, _, rfl, _, _, rfl, rfl, by rw [← hc]; exact ⟨c0, cb⟩, g2 _ (by simp [FD, hc]) _ (Same.refl _)⟩
    rcases hs with hs | hs
    · refine ⟨_, pss_cons (ps_set (i := 1) sc_plain.nd rfl (Or.inr rfl) (pdf D1 G1 hr (pa_cons (pv 0) pa_nil)))
        (pss_cons (ps_set (i := 2) sc_plain.nd rfl (Or.inl rfl) (pe_ix ix_list (pe_lc (own := [("number", 3)]) (g := gName 3) rfl sc_plain.nd (pi_list (pv 0)) (blkOk_by (N := ["numbers", "common", "first", "number"]) (sc := defScope s_plain) (by decide +kernel)) (fun _ _ _ _ _ => pg_name (i := 3) sc_plain.nd rfl (Or.inl rfl))
          (fun _ _ _ _ _ => pts_one (pt_cmpR op_ne (pv 3) pe_int (nomark _))) (fun _ _ _ _ _ => pv 3)) pe_int (fun _ _ => rfl)))
        (pss_cons (ps_if (pt_cmpR op_lt (pv 2) pe_int (nomark _)) (pss_one (ps_set (i := 1) sc_plain.nd rfl (Or.inr rfl) (pe_un un_neg (pv 1)))) pss_nil)
        (pss_one (ps_ret (pe_lc (own := [("number", 3)]) (g := gName 3) (tt := tYes) rfl sc_plain.nd (pi_list (pv 0)) (blkOk_by (N := ["numbers", "common", "first", "number"]) (sc := defScope s_plain) (by decide +kernel)) (fun _ _ _ _ _ => pg_name (i := 3) sc_plain.nd rfl (Or.inl rfl))
          (fun _ _ _ _ _ => pts_nil) (fun _ _ _ _ _ => pe_op op_fdivN (pv 3) (pv 1))))))), ?_⟩
      refine ⟨_, rfl, p, ns, rfl, .inl hs, ?_⟩
      refine ⟨_, rfl, p, rfl, ⟨_, hs⟩, fun D hD => lcL FN hs hlen hD (fun x hx H1 _ => t1 x hx H1) fun H1 s1 h1 => ?_⟩
      refine ⟨D, _, 0, _, rfl, rfl, SqL.mk h1, at0, ?_⟩
      refine ⟨_, rfl, _, _, rfl, rfl, _, rfl, ?_⟩
      have hs1 := s1.seq hs
      refine ite2 (fun e => ?_) (fun e => ?_)
      · have e2 : firstN ns < 0 := of_decide_eq_true e
        refine ⟨_, rfl, _, rfl, ?_⟩
        refine ⟨_, rfl, p, rfl, ⟨_, hs1⟩, fun D2 hD2 => lcL FD hs1 hlen hD2 (fun x hx H2 _ => t2 (-gcdL ns) (by unfold signed; rw [if_pos e2]) x hx H2) fun H2 s2 h2 => q H2 D2 (s1.trans s2) (s1.free hD2) (by rw [h2, fd])⟩
      · have e2 : ¬ firstN ns < 0 := fun z => e (decide_eq_true z)
        refine ⟨_, rfl, p, rfl, ⟨_, hs1⟩, fun D2 hD2 => lcL FD hs1 hlen hD2 (fun x hx H2 _ => t2 (gcdL ns) (by unfold signed; rw [if_neg e2]) x hx H2) fun H2 s2 h2 => q H2 D2 (s1.trans s2) (s1.free hD2) (by rw [h2, fd])⟩
    · refine ⟨_, pss_cons (ps_set (i := 1) sc_plain.nd rfl (Or.inr rfl) (pdf D1 G1 hr (pa_cons (pv 0) pa_nil)))
        (pss_cons (ps_set (i := 2) sc_plain.nd rfl (Or.inl rfl) (pe_ix ix_list (pe_lc (own := [("number", 3)]) (g := gName 3) rfl sc_plain.nd (pi_tup (pv 0)) (blkOk_by (N := ["numbers", "common", "first", "number"]) (sc := defScope s_plain) (by decide +kernel)) (fun _ _ _ _ _ => pg_name (i := 3) sc_plain.nd rfl (Or.inl rfl))
          (fun _ _ _ _ _ => pts_one (pt_cmpR op_ne (pv 3) pe_int (nomark _))) (fun _ _ _ _ _ => pv 3)) pe_int (fun _ _ => rfl)))
        (pss_cons (ps_if (pt_cmpR op_lt (pv 2) pe_int (nomark _)) (pss_one (ps_set (i := 1) sc_plain.nd rfl (Or.inr rfl) (pe_un un_neg (pv 1)))) pss_nil)
        (pss_one (ps_ret (pe_lc (own := [("number", 3)]) (g := gName 3) (tt := tYes) rfl sc_plain.nd (pi_tup (pv 0)) (blkOk_by (N := ["numbers", "common", "first", "number"]) (sc := defScope s_plain) (by decide +kernel)) (fun _ _ _ _ _ => pg_name (i := 3) sc_plain.nd rfl (Or.inl rfl))
          (fun _ _ _ _ _ => pts_nil) (fun _ _ _ _ _ => pe_op op_fdivN (pv 3) (pv 1))))))), ?_⟩
      refine ⟨_, rfl, p, ns, rfl, .inr hs, ?_⟩
      refine ⟨_, rfl, p, rfl, ⟨_, hs⟩, fun D hD => lcT FN hs hlen hD (fun x hx H1 _ => t1 x hx H1) fun H1 s1 h1 => ?_⟩
      refine ⟨D, _, 0, _, rfl, rfl, SqL.mk h1, at0, ?_⟩
      refine ⟨_, rfl, _, _, rfl, rfl, _, rfl, ?_⟩
      have hs1 := same_t s1 hs
      refine ite2 (fun e => ?_) (fun e => ?_)
      · have e2 : firstN ns < 0 := of_decide_eq_true e
        refine ⟨_, rfl, _, rfl, ?_⟩
        refine ⟨_, rfl, p, rfl, ⟨_, hs1⟩, fun D2 hD2 => lcT FD hs1 hlen hD2 (fun x hx H2 _ => t2 (-gcdL ns) (by unfold signed; rw [if_pos e2]) x hx H2) fun H2 s2 h2 => q H2 D2 (s1.trans s2) (s1.free hD2) (by rw [h2, fd])⟩
      · have e2 : ¬ firstN ns < 0 := fun z => e (decide_eq_true z)
        refine ⟨_, rfl, p, rfl, ⟨_, hs1⟩, fun D2 hD2 => lcT FD hs1 hlen hD2 (fun x hx H2 _ => t2 (gcdL ns) (by unfold signed; rw [if_neg e2]) x hx H2) fun H2 s2 h2 => q H2 D2 (s1.trans s2) (s1.free hD2) (by rw [h2, fd])⟩
end
end G0

namespace G0
open PySem PySem.Spec PyProof.Rows L2
section
variable {P : Program} {w : World} {K : PySem.W.Frag} {mg : Str → Option Value} {base : Heap}
/-! is_point of three ints -/
def sp_is_point (K : PySem.W.Frag) : Sp := fun vs H Q _ => ∃ (p : Addr) (a b c : Int), vs = [.ref p] ∧ Sq K H p ([a, b, c].map V.int) ∧ ∀ H', Same H H' → Q (.bl (decide (a ≠ 0) || (decide (b ≠ 0) || (decide (c ≠ 0) || false)))) H'
theorem sc_is_point : FnScope ["value", "number"] ["value"] (defScope s_is_point) := ⟨rfl, rfl, rfl, by decide +kernel, rfl, by decide +kernel, by decide +kernel⟩
theorem ok_is_point {f f1 f2 f3 : Addr} {fd fd1 fd2 fd3 : FuncData} (F : Fun K "is_point" "is_point" s_is_point f fd) (B : Blt mg) (D1 : Df K mg "is_three" s_is_three ["value"] f1 fd1)
    (D2 : Df K mg "is_integer" s_is_integer ["value"] f2 fd2) (D3 : Df K mg "is_list" s_is_list ["value"] f3 fd3) : FnOk P w K mg base CX0 3 f fd ["value"] (sp_is_point K) := by
  have G1 : FnOk P w K mg base CX0 2 f1 fd1 ["value"] (sp_is_three K) := ok_is_three D1.F B D2 D3
  refine F.ok sc_is_point (fun vs H Q E h => ?_) (fun cdv A outer s H vs Q E hr h => ?_)
  · obtain ⟨p, a, b, c, rfl, _⟩ := h
    rfl
  · obtain ⟨p, a, b, c, rfl, hs, q⟩ := h
    let FN : V → Option V := fun x => match x with | .int n => some (.bl (decide (n ≠ 0))) | _ => none
    have t1 : ∀ x, x ∈ [a, b, c].map V.int → ∀ H1 : Hp, Turn1 (gName 1) tYes (tOp rNe (tVar 1) (tC (.int 0))) [1] [some (.ref p), none] FN x H1 := by
      intro x hx H1 G N g1 g2
      obtain ⟨n, hn, rfl⟩ := mem_int hx
      refine ⟨rfl, iteT (B := N H1) ?_⟩
      refine ⟨_, rfl, rfl, g2 _ ?_ _ (Same.refl _)⟩
      show some (V.bl (decide (n ≠ 0))) = some (V.bl (!decide (V.int n = V.int 0)))
      by_cases h0 : n = 0 <;> simp [h0]
    rcases hs with hs | hs
    · refine ⟨_, pss_one (ps_ret (pe_and (pdf D1 G1 hr (pa_cons (pv 0) pa_nil)) (pe_one (pe_callB (cr_any rfl) (by rfl) B.any boot_any (pa_cons (pe_lc (own := [("number", 1)]) (g := gName 1) (tt := tYes) rfl sc_is_point.nd (pi_list (pv 0)) (blkOk_by (N := ["value", "number"]) (sc := defScope s_is_point) (by decide +kernel)) (fun _ _ _ _ _ => pg_name (i := 1) sc_is_point.nd rfl (Or.inl rfl))
        (fun _ _ _ _ _ => pts_nil) (fun _ _ _ _ _ => pe_cmpR op_ne (pv 1) pe_int (nomark _))) pa_nil))))), ?_⟩
      refine ⟨_, rfl, p, a, b, c, rfl, .inl hs, fun H1 s1 => ⟨true, rfl, iteT ?_⟩⟩
      have hs1 := s1.seq hs
      refine ⟨_, rfl, p, rfl, ⟨_, hs1⟩, fun D hD => lcL FN hs1 (by show 3 < sizeLine; decide) hD (fun x hx H2 _ => t1 x hx H2) fun H2 s2 h2 => ?_⟩
      exact ⟨D, [decide (a ≠ 0), decide (b ≠ 0), decide (c ≠ 0)], rfl, SqL.mk h2, q _ (s1.trans s2)⟩
    · refine ⟨_, pss_one (ps_ret (pe_and (pdf D1 G1 hr (pa_cons (pv 0) pa_nil)) (pe_one (pe_callB (cr_any rfl) (by rfl) B.any boot_any (pa_cons (pe_lc (own := [("number", 1)]) (g := gName 1) (tt := tYes) rfl sc_is_point.nd (pi_tup (pv 0)) (blkOk_by (N := ["value", "number"]) (sc := defScope s_is_point) (by decide +kernel)) (fun _ _ _ _ _ => pg_name (i := 1) sc_is_point.nd rfl (Or.inl rfl))
        (fun _ _ _ _ _ => pts_nil) (fun _ _ _ _ _ => pe_cmpR op_ne (pv 1) pe_int (nomark _))) pa_nil))))), ?_⟩
      refine ⟨_, rfl, p, a, b, c, rfl, .inr hs, fun H1 s1 => ⟨true, rfl, iteT ?_⟩⟩
      have hs1 := same_t s1 hs
      refine ⟨_, rfl, p, rfl, ⟨_, hs1⟩, fun D hD => lcT FN hs1 (by show 3 < sizeLine; decide) hD (fun x hx H2 _ => t1 x hx H2) fun H2 s2 h2 => ?_⟩
      exact ⟨D, [decide (a ≠ 0), decide (b ≠ 0), decide (c ≠ 0)], rfl, SqL.mk h2, q _ (s1.trans s2)⟩

/-! told_point of three ints, not all 0 -/
def sp_told_point (K : PySem.W.Frag) : Sp := fun vs H Q _ => ∃ (p : Addr) (a b c : Int), vs = [.ref p] ∧ Sq K H p ([a, b, c].map V.int) ∧ (∃ n ∈ [a, b, c], n ≠ 0) ∧ (∀ n ∈ [a, b, c], n.natAbs < 2 ^ 30) ∧
  ∀ H' q, Same H H' → H q = none → H' q = some (.tup ((plainI [a, b, c]).map V.int)) → Q (.ref q) H'
theorem any_of {a b c : Int} (h : ∃ n ∈ [a, b, c], n ≠ 0) : (decide (a ≠ 0) || (decide (b ≠ 0) || (decide (c ≠ 0) || false))) = true := by
  obtain ⟨n, hn, h0⟩ := h
  simp only [List.mem_cons, List.not_mem_nil, or_false] at hn
  rcases hn with rfl | rfl | rfl <;> simp [h0]
theorem sc_told_point : FnScope ["point"] ["point"] (defScope s_told_point) := ⟨rfl, rfl, rfl, by decide +kernel, rfl, by decide +kernel, by decide +kernel⟩
theorem ok_told_point {f f1 f2 : Addr} {fd fd1 fd2 : FuncData} (F : Fun K "told_point" "told_point" s_told_point f fd) (B : Blt mg) (D1 : Df K mg "is_point" s_is_point ["value"] f1 fd1) (D2 : Df K mg "plain" s_plain ["numbers"] f2 fd2)
    (G1 : FnOk P w K mg base CX0 3 f1 fd1 ["value"] (sp_is_point K)) (G2 : FnOk P w K mg base CX0 2 f2 fd2 ["numbers"] (sp_plain K)) : FnOk P w K mg base CX0 4 f fd ["point"] (sp_told_point K) := by
  refine F.ok sc_told_point (fun vs H Q E h => ?_) (fun cdv A outer s H vs Q E hr h => ?_)
  · obtain ⟨p, a, b, c, rfl, _⟩ := h
    rfl
  · obtain ⟨p, a, b, c, rfl, hs, hz, hb, q⟩ := h
    refine ⟨_, pss_cons (ps_if (pt_not (pt_val (pdf D1 G1 hr (pa_cons (pv 0) pa_nil)))) (pss_one ps_never) pss_nil)
      (pss_one (ps_ret (pe_callTy call_tuple_of (by rfl) B.tuple boot_ttuple (pa_cons (pdf D2 G2 (hr.mono (by decide)) (pa_cons (pv 0) pa_nil)) pa_nil)))), ?_⟩
    refine ⟨_, rfl, p, a, b, c, rfl, hs, fun H1 s1 => ?_⟩
    rw [any_of hz]
    refine ⟨true, rfl, iteF ?_⟩
    refine ⟨_, rfl, p, [a, b, c], rfl, hs.same s1, hz, hb, by show 3 ≤ 1000; decide, fun H2 l s2 nl hl => ?_⟩
    refine ⟨l, _, rfl, .inl ⟨SqL.mk hl, fun t ht => ?_⟩⟩
    exact q _ t ((s1.trans s2).trans (same_new ht)) ((s1.trans s2).free ht) upd_same
end
end G0

namespace G0
open PySem PySem.Spec PyProof.Rows L2
abbrev s_Spots : Stmt := top 22
abbrev s_Spots_init : Stmt := inClass s_Spots 0
abbrev s_Spots_points : Stmt := inClass s_Spots 4
abbrev s_Spots_place : Stmt := inClass s_Spots 5
/-! ### what is compared -/
theorem lay_ints : ∀ ns : List Int, PyData.canLayAll0 (ns.map PyData.int) = true
  | [] => by simp [PyData.canLayAll0]
  | n :: ns => by simp [PyData.canLayAll0, PyData.canLay0, lay_ints ns]
theorem dep_ints : ∀ ns : List Int, PyData.depthAll (ns.map PyData.int) = 0
  | [] => by simp [PyData.depthAll]
  | n :: ns => by simp [PyData.depthAll, PyData.depth, dep_ints ns]
theorem lay_tups : ∀ ts : List (List Int), PyData.canLayAll0 (ts.map dTup) = true
  | [] => by simp [PyData.canLayAll0]
  | t :: ts => by simp [PyData.canLayAll0, PyData.canLay0, lay_tups ts, lay_ints]
theorem dep_tups : ∀ ts : List (List Int), PyData.depthAll (ts.map dTup) ≤ 1
  | [] => by simp [PyData.depthAll]
  | t :: ts => by
    have := dep_tups ts
    simp only [List.map_cons, PyData.depthAll, PyData.depth, dep_ints]
    omega
theorem shaped_tup (ns : List Int) : SeqAt.shaped (dTup ns) = true := by
  show (PyData.canLay0 (dTup ns) && decide (PyData.depth (dTup ns) ≤ 64)) = true
  simp only [PyData.canLay0, lay_ints, PyData.depth, dep_ints]
  decide
theorem shaped_tups (ts : List (List Int)) : SeqAt.shaped (.list (ts.map dTup)) = true := by
  show (PyData.canLay0 (.list (ts.map dTup)) && decide (PyData.depth (.list (ts.map dTup)) ≤ 64)) = true
  have h : PyData.depth (.list (ts.map dTup)) ≤ 64 := by
    have := dep_tups ts
    simp only [PyData.depth]
    omega
  simp only [PyData.canLay0, lay_tups, decide_eq_true h, Bool.and_self]
theorem any_eqv (ts : List (List Int)) (t : List Int) : ((ts.map dTup).any fun z => PyData.eqv z (dTup t)) = decide (t ∈ ts) := by
  induction ts with
  | nil => simp
  | cons u us ih =>
    rw [List.map_cons, List.any_cons, ih, eqv_tup, Bool.eq_iff_iff]
    simp only [Bool.or_eq_true, decide_eq_true_eq, List.mem_cons]
    exact ⟨fun h => h.imp (fun e => e.symm) id, fun h => h.imp (fun e => e.symm) id⟩
theorem not_mem_take {α : Type} {xs : List α} {i : Nat} {x : α} (nd : xs.Nodup) (h : xs[i]? = some x) : x ∉ xs.take i := by
  intro m
  obtain ⟨hi, e⟩ := List.getElem?_eq_some_iff.mp h
  obtain ⟨j, hj, ej⟩ := List.getElem_of_mem m
  rw [List.length_take] at hj
  rw [List.getElem_take] at ej
  have := (List.getElem_inj (h₀ := by omega) (h₁ := hi) nd).mp (ej.trans e.symm)
  omega
theorem DpAll.snoc {K : PySem.W.Frag} {H : Hp} : ∀ {vs : List V} {ds : List PyData} {v : V} {d : PyData}, DpAll K H vs ds → Dp K H v d → DpAll K H (vs ++ [v]) (ds ++ [d])
  | _, _, _, _, .nil, h => .cons h .nil
  | _, _, _, _, .cons h1 h2, h => .cons h1 (DpAll.snoc h2 h)
theorem DpAll.len {K : PySem.W.Frag} {H : Hp} : ∀ {vs : List V} {ds : List PyData}, DpAll K H vs ds → vs.length = ds.length
  | _, _, .nil => rfl
  | _, _, .cons _ h => by rw [List.length_cons, List.length_cons, DpAll.len h]

/-! ### Spots -/
/-- one point as it may be passed -/
structure Pt (K : PySem.W.Frag) (H : Hp) (v : V) (t : List Int) : Prop where
  at_ : ∃ p a b c, v = .ref p ∧ t = [a, b, c] ∧ Sq K H p ([a, b, c].map V.int)
  nz : ∃ n ∈ t, n ≠ 0
  sm : ∀ n ∈ t, n.natAbs < 2 ^ 30
theorem Pt.same {K : PySem.W.Frag} {H H' : Hp} {v : V} {t : List Int} (e : Same H H') (h : Pt K H v t) : Pt K H' v t := by
  obtain ⟨⟨p, a, b, c, h1, h2, h3⟩, h4, h5⟩ := h
  exact ⟨⟨p, a, b, c, h1, h2, h3.same e⟩, h4, h5⟩
/-- Spots that keep these told points -/
def SpotsAt (K : PySem.W.Frag) (C : Addr) (H : Hp) (x : Addr) (ts : List (List Int)) : Prop :=
  ∃ dx l vs, H x = some (.ins C dx [("_points", .ref l)]) ∧ H l = some (.lst vs) ∧ DpAll K H vs (ts.map dTup)
theorem SpotsAt.same {K : PySem.W.Frag} {C x : Addr} {H H' : Hp} {ts : List (List Int)} (e : Same H H') (h : SpotsAt K C H x ts) : SpotsAt K C H' x ts := by
  obtain ⟨dx, l, vs, h1, h2, h3⟩ := h
  exact ⟨dx, l, vs, e _ _ h1, e _ _ h2, DpAll.same e h3⟩
def sp_init (K : PySem.W.Frag) (C : Addr) : Sp := fun vs H Q _ => ∃ (H0 : Hp) (x dx p : Addr) (us : List V) (ts : List (List Int)), vs = [.ref x, .ref p] ∧ Same H0 H ∧ H0 x = none ∧ H x = some (.ins C dx []) ∧ Sq K H0 p us ∧ us.length = ts.length ∧
  (∀ (i : Nat) (v : V) (t : List Int), us[i]? = some v → ts[i]? = some t → Pt K H0 v t) ∧ 1 ≤ ts.length ∧ ts.length ≤ 24 ∧ (ts.map plainI).Nodup ∧ ∀ H', Same H0 H' → SpotsAt K C H' x (ts.map plainI) → Q .non H'
structure SpTxt (K : PySem.W.Frag) (mg : Str → Option Value) (C : Addr) : Prop where
  cl : Cls K C
  nP : NoAttr K C "_points"
  mgC : mg "Spots" = some (.ref C)
  most : ∃ t, mg "MOST_POINTS" = some (.int 24 t)
section
variable {P : Program} {w : World} {K : PySem.W.Frag} {mg : Str → Option Value} {base : Heap}
theorem sc_init : FnScope ["self", "points", "told", "position", "point"] ["self", "points"] (defScope s_Spots_init) := ⟨rfl, rfl, rfl, by decide +kernel, rfl, by decide +kernel, by decide +kernel⟩
theorem ok_init {f C f1 f2 f3 : Addr} {fd fd1 fd2 fd3 : FuncData} (F : Fun K "__init__" "Spots.__init__" s_Spots_init f fd) (T : SpTxt K mg C) (B : Blt mg) (D1 : Df K mg "is_list" s_is_list ["value"] f1 fd1) (D2 : Df K mg "is_point" s_is_point ["value"] f2 fd2) (D3 : Df K mg "told_point" s_told_point ["point"] f3 fd3)
    (G1 : FnOk P w K mg base CX0 1 f1 fd1 ["value"] (sp_is_list K)) (G2 : FnOk P w K mg base CX0 3 f2 fd2 ["value"] (sp_is_point K)) (G3 : FnOk P w K mg base CX0 4 f3 fd3 ["point"] (sp_told_point K)) : FnOk P w K mg base CX0 5 f fd ["self", "points"] (sp_init K C) := by
  refine F.ok sc_init (fun vs H Q E h => ?_) (fun cdv A outer s H vs Q E hr h => ?_)
  · obtain ⟨H0, x, dx, p, us, ts, rfl, _⟩ := h
    rfl
  · obtain ⟨H0, x, dx, p, us, ts, rfl, s0, hx0, hx, hp, hlu, hpt, h1, h24, hnd, q⟩ := h
    obtain ⟨t24, m24⟩ := T.most
    obtain ⟨kind, hp⟩ := hp.kind
    have hu65 : (A.deeper (envOfC "Spots.__init__" (defScope s_Spots_init) s.heap.objs.size f cdv)).units + 65 < cLine := by
      have := hr.un
      omega
    refine ⟨_, pss_cons (ps_if (PW.pt (pw_or (pt_not (pt_val (pdf D1 G1 (hr.mono (by decide)) (pa_cons (pv 1) pa_nil)))) (pw_or1 (pt_not (pt_chain op_le op_le pe_int (pe_callB call_len_seq (by rfl) B.len PySem.boot_len (pa_cons (pv 1) pa_nil)) (pe_glob (v := V.int 24) rfl m24 ⟨_, rfl⟩)))))) (pss_one ps_never) pss_nil)
      (pss_cons (ps_set (i := 2) sc_init.nd rfl (Or.inl rfl) (pe_lst pa_nil))
      (pss_cons (ps_for PassesOwn.never rfl (pi_E kind (by rfl) B.enumerate (pa_cons (pv 1) pa_nil)) (pg_tup rfl (pgs_cons (pg_name (i := 3) sc_init.nd rfl (.inl rfl)) (pgs_cons (pg_name (i := 4) sc_init.nd rfl (.inl rfl)) pgs_nil)))
        (pss_cons (ps_if (PW.pt (pw_or (pt_not (pt_val (pdf D2 G2 (hr.mono (by decide)) (pa_cons (pv 4) pa_nil)))) (pw_or1 (pt_cmpR (op_inD hu65) (pdf D3 G3 hr (pa_cons (pv 4) pa_nil)) (pv 2) (by rfl))))) (pss_one ps_never) pss_nil)
        (pss_one (ps_expr (pe_bm PySem.F.plainAttrs_list PySem.F.slot_list_append PySem.F.type_list_append mt_append (pv 2) (pa_cons (pdf D3 G3 hr (pa_cons (pv 4) pa_nil)) pa_nil))))))
      (pss_one (ps_fld (pv 0) (pv 2) rfl)))), ?_⟩
    -- not is_list(points) or not 1 <= len(points) <= MOST_POINTS
    refine ⟨_, rfl, p, us, rfl, (hp.same s0).sq, fun H1 s1 => ⟨true, rfl, ?_⟩⟩
    have s01 := s0.trans s1
    refine iteF ?_
    refine ⟨_, rfl, p, us, rfl, (hp.same s01).sq, ?_⟩
    have e1 : decide ((1 : Int) ≤ ((us.length : Nat) : Int)) = true := decide_eq_true (by omega)
    have e24 : decide (((us.length : Nat) : Int) ≤ 24) = true := decide_eq_true (by omega)
    refine ⟨1, _, rfl, rfl, _, rfl, ?_⟩
    rw [e1]
    refine iteT ⟨_, 24, rfl, rfl, _, rfl, ?_⟩
    rw [e24]
    refine iteF ?_
    -- told = []
    refine ⟨Nat.zero_le _, fun l hl => ?_⟩
    -- for position, point in enumerate(points)
    have hx1 : H1 x = some (.ins C dx []) := s1 _ _ hx
    have nxl : x ≠ l := ne_of_none hx1 hl
    have l0 : H0 l = none := s01.free hl
    refine ⟨_, rfl, p, us, rfl, hp.same (s01.trans (same_new hl)), for_it (walk_E (b := kind) (xs := us)) (fun i σ H2 => ∃ (D0 : Hp) (vs : List V) (y3 y4 : Option V), σ = [some (.ref x), some (.ref p), some (.ref l), y3, y4] ∧ Same H0 D0 ∧ D0 x = none ∧ D0 l = none ∧ Same D0 H2 ∧
      H2 x = some (.ins C dx []) ∧ H2 l = some (.lst vs) ∧ DpAll K D0 vs (((ts.map plainI).take i).map dTup)) ⟨H0, [], none, none, rfl, Same.refl _, hx0, l0, s01.trans (same_new hl), ?_, upd_same, .nil⟩ ?_ ?_ ?_⟩
    · rw [upd_ne nxl]
      exact hx1
    · rintro i σ H2 _ ⟨D0, vs, y3, y4, rfl, a1, a2, a3, a4, _⟩
      exact hp.same (a1.trans a4)
    · rintro i y σ H2 H3 hi ⟨D0, vs, y3, y4, rfl, a1, a2, a3, a4, a5, a6, a7⟩ ⟨Tp, z1, z2, rfl, nT, rfl, ez1, ez2⟩
      cases ez1
      obtain ⟨t, et⟩ : ∃ t, ts[i]? = some t := ⟨ts[i]'(by omega), List.getElem?_eq_getElem _⟩
      have pt0 := hpt i z2 t ez2 et
      obtain ⟨⟨pp, a, b, c, rfl, rfl, sq⟩, nz, sm⟩ := pt0
      have sT : Same H2 (upd H2 Tp (.tup [.int (i : Nat), .ref pp])) := same_new nT
      refine ⟨Tp, _, rfl, SqT.mk upd_same, rfl, _, _, rfl, _, _, rfl, rfl, ?_⟩
      have s3 : Same H0 (upd H2 Tp (.tup [.int (i : Nat), .ref pp])) := (a1.trans a4).trans sT
      -- not is_point(point) or told_point(point) in told
      refine ⟨_, rfl, pp, a, b, c, rfl, sq.same s3, fun H4 s4 => ?_⟩
      rw [any_of nz]
      refine ⟨true, rfl, iteF ?_⟩
      refine ⟨_, rfl, pp, a, b, c, rfl, sq.same (s3.trans s4), nz, sm, fun H5 q1 s5 n5 h5 => ?_⟩
      have sD5 : Same D0 H5 := (a4.trans sT).trans (s4.trans s5)
      have hl5 : H5 l = some (.lst vs) := s5 _ _ (s4 _ _ (sT _ _ a6))
      refine ⟨_, rfl, dTup (plainI [a, b, c]), ((ts.map plainI).take i).map dTup, dp_tup (SqT.mk h5), .lst (SqL.mk hl5) (DpAll.same sD5 a7), shaped_tup _, shaped_tups _, ?_⟩
      have em : (ts.map plainI)[i]? = some (plainI [a, b, c]) := by
        rw [List.getElem?_map, et]
        rfl
      have no : ((((ts.map plainI).take i).map dTup).any fun z => PyData.eqv z (dTup (plainI [a, b, c]))) = false := by
        rw [any_eqv]
        exact decide_eq_false (not_mem_take hnd em)
      rw [no]
      refine ⟨_, rfl, iteF ?_⟩
      -- told.append(told_point(point))
      refine ⟨_, rfl, .inl ⟨rfl, _, SqL.mk hl5⟩, _, rfl, pp, a, b, c, rfl, sq.same (a1.trans sD5), nz, sm, fun H6 q2 s6 n6 h6 => ?_⟩
      have sD6 : Same D0 H6 := sD5.trans s6
      have hl6 : H6 l = some (.lst vs) := s6 _ _ hl5
      have hx6 : H6 x = some (.ins C dx []) := s6 _ _ (s5 _ _ (s4 _ _ (sT _ _ a5)))
      have q20 : D0 q2 = none := sD5.free n6
      have nq2l : q2 ≠ l := (ne_of_none hl5 n6).symm
      have nq2x : q2 ≠ x := (ne_of_none (s5 _ _ (s4 _ _ (sT _ _ a5))) n6).symm
      have hvl : vs.length ≤ 24 := by
        rw [DpAll.len a7, List.length_map, List.length_take]
        have := List.length_map (f := plainI) (as := ts)
        omega
      refine ⟨l, _, _, rfl, rfl, hl6, Nat.lt_of_le_of_lt hvl (by decide), ?_⟩
      refine ⟨upd D0 q2 (.tup ((plainI [a, b, c]).map V.int)), vs ++ [.ref q2], _, _, rfl, a1.trans (same_new q20), ?_, ?_, ?_, ?_, upd_same, ?_⟩
      · rw [upd_ne nq2x.symm]
        exact a2
      · rw [upd_ne nq2l.symm]
        exact a3
      · intro b o e
        by_cases eb : b = q2
        · subst eb
          rw [upd_same] at e
          cases e
          rw [upd_ne nq2l]
          exact h6
        · rw [upd_ne eb] at e
          rw [upd_ne (ne_of_none e a3)]
          exact sD6 _ _ e
      · rw [upd_ne nxl]
        exact hx6
      · rw [List.take_add_one, em, List.map_append]
        exact DpAll.snoc (DpAll.same (same_new q20) a7) (dp_tup (SqT.mk upd_same))
    · rintro σ H2 ⟨D0, vs, y3, y4, rfl, a1, a2, a3, a4, a5, a6, a7⟩
      rw [List.take_of_length_le (by rw [List.length_map]; omega)] at a7
      refine ⟨_, rfl, _, rfl, x, C, dx, [], rfl, a5, T.cl, T.nP, (by show 0 < 1000; decide), ?_⟩
      have sx : Same D0 (upd H2 x (.ins C dx (putF "_points" (.ref l) []))) := fun b o e => by
        rw [upd_ne (ne_of_none e a2)]
        exact a4 _ _ e
      refine q _ (a1.trans sx) ⟨dx, l, vs, upd_same, ?_, DpAll.same sx a7⟩
      rw [upd_ne nxl.symm]
      exact a6
end
end G0

namespace G0
open PySem PySem.Spec PyProof.Rows L2
section
variable {P : Program} {w : World} {K : PySem.W.Frag} {mg : Str → Option Value} {base : Heap}
/-- a list of told points -/
def Tups (K : PySem.W.Frag) (H : Hp) (l : Addr) (ts : List (List Int)) : Prop := ∃ vs, H l = some (.lst vs) ∧ DpAll K H vs (ts.map dTup)
theorem Tups.dp {K : PySem.W.Frag} {H : Hp} {l : Addr} {ts : List (List Int)} (h : Tups K H l ts) : Dp K H (.ref l) (.list (ts.map dTup)) := by
  obtain ⟨vs, h1, h2⟩ := h
  exact .lst (SqL.mk h1) h2
def sp_points (K : PySem.W.Frag) (C : Addr) : Sp := fun vs H Q _ => ∃ (x : Addr) (ts : List (List Int)), vs = [.ref x] ∧ SpotsAt K C H x ts ∧ ∀ H' l, Same H H' → H l = none → Tups K H' l ts → Q (.ref l) H'
theorem sc_points : FnScope ["self"] ["self"] (defScope s_Spots_points) := ⟨rfl, rfl, rfl, by decide +kernel, rfl, by decide +kernel, by decide +kernel⟩
theorem ok_points {f C : Addr} {fd : FuncData} (F : Fun K "points" "Spots.points" s_Spots_points f fd) (T : SpTxt K mg C) (B : Blt mg) : FnOk P w K mg base CX0 1 f fd ["self"] (sp_points K C) := by
  refine F.ok sc_points (fun vs H Q E h => ?_) (fun cdv A outer s H vs Q E hr h => ?_)
  · obtain ⟨x, ts, rfl, _⟩ := h
    rfl
  · obtain ⟨x, ts, rfl, ⟨dx, l, us, h1, h2, h3⟩, q⟩ := h
    refine ⟨_, pss_one (ps_ret (pe_callTy call_list_of (by rfl) B.list boot_tlist (pa_cons (pe_fld (pv 0) rfl) pa_nil))), ?_⟩
    refine ⟨_, rfl, x, C, dx, _, _, rfl, h1, T.cl, T.nP, rfl, l, us, rfl, .inl (SqL.mk h2), fun m hm => ?_⟩
    exact q _ m (same_new hm) hm ⟨us, upd_same, DpAll.same (same_new hm) h3⟩

def PlaceIs (ts : List (List Int)) (t : List Int) : Option Nat → Prop
  | none => t ∉ ts
  | some j => ts[j]? = some t ∧ ∀ m, m < j → ts[m]? ≠ some t
def placeV : Option Nat → V
  | none => .non
  | some j => .int (j : Nat)
def sp_place (K : PySem.W.Frag) (C : Addr) : Sp := fun vs H Q _ => ∃ (x : Addr) (ts : List (List Int)) (v : V) (t : List Int) (r : Option Nat), vs = [.ref x, v] ∧ SpotsAt K C H x ts ∧ Pt K H v t ∧ PlaceIs ts (plainI t) r ∧ ∀ H', Same H H' → Q (placeV r) H'
theorem sc_place : FnScope ["self", "point", "told"] ["self", "point"] (defScope s_Spots_place) := ⟨rfl, rfl, rfl, by decide +kernel, rfl, by decide +kernel, by decide +kernel⟩
theorem ok_place {f C f3 : Addr} {fd fd3 : FuncData} (F : Fun K "place" "Spots.place" s_Spots_place f fd) (T : SpTxt K mg C) (D3 : Df K mg "told_point" s_told_point ["point"] f3 fd3) (G3 : FnOk P w K mg base CX0 4 f3 fd3 ["point"] (sp_told_point K)) :
    FnOk P w K mg base CX0 5 f fd ["self", "point"] (sp_place K C) := by
  refine F.ok sc_place (fun vs H Q E h => ?_) (fun cdv A outer s H vs Q E hr h => ?_)
  · obtain ⟨x, ts, v, t, r, rfl, _⟩ := h
    rfl
  · obtain ⟨x, ts, v, t, r, rfl, ⟨dx, l, us, h1, h2, h3⟩, ⟨⟨p, a, b, c, rfl, rfl, sq⟩, nz, sm⟩, pl, q⟩ := h
    have hu65 : (A.deeper (envOfC "Spots.place" (defScope s_Spots_place) s.heap.objs.size f cdv)).units + 65 < cLine := by
      have := hr.un
      omega
    refine ⟨_, pss_cons (ps_set (i := 2) sc_place.nd rfl (Or.inl rfl) (pdf D3 G3 hr (pa_cons (pv 1) pa_nil)))
      (pss_cons (ps_if (pt_cmpR (op_notInD hu65) (pv 2) (pe_fld (pv 0) rfl) (by rfl)) (pss_one (ps_ret pe_non)) pss_nil)
      (pss_one (ps_ret (pe_bm PySem.F.plainAttrs_list PySem.F.slot_list_index PySem.F.type_list_index (mt_indexD hu65) (pe_fld (pv 0) rfl) (pa_cons (pv 2) pa_nil))))), ?_⟩
    refine ⟨_, rfl, p, a, b, c, rfl, sq, nz, sm, fun H1 t1 s1 n1 g1 => ?_⟩
    have i1 := s1 _ _ h1
    have i2 := s1 _ _ h2
    have i3 := DpAll.same s1 h3
    refine ⟨_, rfl, _, rfl, x, C, dx, _, _, rfl, i1, T.cl, T.nP, rfl, dTup (plainI [a, b, c]), ts.map dTup, dp_tup (SqT.mk g1), .lst (SqL.mk i2) i3, shaped_tup _, shaped_tups _, ?_⟩
    rw [any_eqv]
    match r, pl with
    | none, pl =>
      have e : decide (plainI [a, b, c] ∈ ts) = false := decide_eq_false pl
      rw [e]
      exact ⟨_, rfl, iteT (q H1 s1)⟩
    | some j, ⟨e1, e2⟩ =>
      have e : decide (plainI [a, b, c] ∈ ts) = true := decide_eq_true (List.mem_of_getElem? e1)
      rw [e]
      refine ⟨_, rfl, iteF ?_⟩
      refine ⟨_, rfl, x, C, dx, _, _, rfl, i1, T.cl, T.nP, rfl, .inl ⟨rfl, _, SqL.mk i2⟩, _, rfl, l, _, dTup (plainI [a, b, c]), ts.map dTup, j, dTup (plainI [a, b, c]), rfl, rfl, .lst (SqL.mk i2) i3, dp_tup (SqT.mk g1), shaped_tups _, shaped_tup _, ?_, ?_, ?_, q H1 s1⟩
      · rw [List.getElem?_map, e1]
        rfl
      · rw [eqv_tup]
        exact decide_eq_true rfl
      · intro m z hm hz
        rw [List.getElem?_map] at hz
        cases et : ts[m]? with
        | none =>
          rw [et] at hz
          cases hz
        | some u =>
          rw [et] at hz
          obtain rfl := Option.some.inj hz
          rw [eqv_tup]
          exact decide_eq_false fun e => e2 m hm (by rw [et, e])
end
end G0

namespace G0
open PySem PySem.Spec PyProof.Rows L2
abbrev s_pot : Stmt := top 26
abbrev s_draw : Stmt := top 27
abbrev s_pick : Stmt := top 28
/-! ### a law's pot: a list of two ints, changed by each draw; D: what else is known -/
structure Wd (p : Addr) (D H : Hp) : Prop where
  s : Same D H
  n : D p = none
  pot : ∃ a b : Int, 0 ≤ a ∧ 0 ≤ b ∧ b < 4294967296 ∧ H p = some (.lst [.int a, .int b])
theorem Wd.pure {p : Addr} {D H H' : Hp} (w : Wd p D H) (e : Same H H') : Wd p D H' := by
  obtain ⟨s, n, a, b, h1, h2, h3, h4⟩ := w
  exact ⟨s.trans e, n, a, b, h1, h2, h3, e _ _ h4⟩
theorem Wd.got {p q : Addr} {D H : Hp} {o : HO} (w : Wd p D H) (h0 : D q = none) (hp : q ≠ p) (h : H q = some o) : Wd p (upd D q o) H := by
  refine ⟨fun b u e => ?_, ?_, w.pot⟩
  · by_cases eb : b = q
    · subst eb
      rw [upd_same] at e
      cases e
      exact h
    · rw [upd_ne eb] at e
      exact w.s _ _ e
  · rw [upd_ne hp.symm]
    exact w.n
theorem Wd.ne {p q : Addr} {D H : Hp} (w : Wd p D H) (h : H q = none) : q ≠ p := by
  obtain ⟨a, b, _, _, _, h4⟩ := w.pot
  exact (ne_of_none h4 h).symm
/-- a new object, made from H on -/
theorem Wd.new {p q : Addr} {D H H' : Hp} {o : HO} (w : Wd p D H) (e : Same H H') (h : H q = none) (hq : H' q = some o) : Wd p (upd D q o) H' ∧ Same D (upd D q o) ∧ (upd D q o) q = some o :=
  ⟨(w.pure e).got (w.s.free h) (w.ne h) hq, same_new (w.s.free h), upd_same⟩
section
variable {P : Program} {w : World} {K : PySem.W.Frag} {mg : Str → Option Value} {base : Heap}
theorem if_te {ta tb : TE} {σ : L2.St} {H : Hp} {Q : V → Hp → Prop} {b : Bool} (S : V → Hp → Prop) (h1 : b = true → ∀ R : V → Hp → Prop, (∀ v H', S v H' → R v H') → ta σ H R) (h2 : b = false → ∀ R : V → Hp → Prop, (∀ v H', S v H' → R v H') → tb σ H R) (k : ∀ v H', S v H' → Q v H') :
    if b = true then ta σ H Q else tb σ H Q := by
  cases b with
  | true => exact iteT (h1 rfl Q k)
  | false => exact iteF (h2 rfl Q k)
/-! _law_pot -/
theorem boot_abs : bootBuiltins "abs" = some (.builtin "abs") := by decide +kernel
theorem boot_max : bootBuiltins "max" = some (.builtin "max") := by decide +kernel
theorem boot_divmod : bootBuiltins "divmod" = some (.builtin "divmod") := by decide +kernel
theorem boot_repr : bootBuiltins "repr" = some (.builtin "repr") := by decide +kernel
def sp_pot (K : PySem.W.Frag) : Sp := fun vs H Q _ => ∃ (l : Addr) (ns : List Int) (k : Nat), vs = [.ref l, .int (k : Nat)] ∧ SqL K H l (ns.map V.int) ∧ ns.length ≤ 63 ∧ k ≤ 63 ∧ ∀ H' p D, Same H H' → Same H D → Wd p D H' → Q (.ref p) H'
theorem sc_pot : FnScope ["_law_script", "_law_k", "_law_cell"] ["_law_script", "_law_k"] (defScope s_pot) := ⟨rfl, rfl, rfl, by decide +kernel, rfl, by decide +kernel, by decide +kernel⟩
theorem ok_pot {f : Addr} {fd : FuncData} (F : Fun K "_law_pot" "_law_pot" s_pot f fd) (B : Blt mg) : FnOk P w K mg base CX0 1 f fd ["_law_script", "_law_k"] (sp_pot K) := by
  refine F.ok sc_pot (fun vs H Q E h => ?_) (fun cdv A outer s H vs Q E hr h => ?_)
  · obtain ⟨l, ns, k, rfl, _⟩ := h
    rfl
  · obtain ⟨l, ns, k, rfl, hs, hn, hk, q⟩ := h
    refine ⟨_, pss_cons (ps_set (i := 2) sc_pot.nd rfl (Or.inl rfl) (pe_ifExp (pt_cmpR op_lt (pv 1) (pe_callB call_len_seq (by rfl) B.len PySem.boot_len (pa_cons (pv 0) pa_nil)) (nomark _))
        (pe_callB call_abs (by rfl) B.abs boot_abs (pa_cons (pe_ix ix_list (pv 0) (pv 1) (fun _ _ => rfl)) pa_nil))
        (pe_op op_add (pe_op op_mul pe_int (pv 1)) pe_int)))
      (pss_one (ps_ret (pe_lst (pa_cons (pe_callB (call_max2 rfl) (by rfl) B.max boot_max (pa_cons pe_int (pa_cons (pe_op op_sub (pv 2) (pe_op op_pow pe_int pe_int)) pa_nil)))
        (pa_cons (pe_op op_add (pe_op op_modN (pe_callTy call_int1 (by rfl) B.int boot_tint (pa_cons (pe_op op_add (pe_op op_add (pe_op op_mul (pe_op op_modN (pe_callTy call_int1 (by rfl) B.int boot_tint (pa_cons (pv 2) pa_nil)) pe_int) pe_int) (pe_op op_mul pe_int (pv 1))) pe_int) pa_nil)) pe_int) pe_int) pa_nil))))), ?_⟩
    refine ⟨_, rfl, _, rfl, l, _, rfl, .inl hs, _, _, rfl, rfl, _, rfl, ?_⟩
    refine if_te (fun v H' => ∃ i : Int, v = .int i ∧ 0 ≤ i ∧ H' = H) (fun e R hR => ?_) (fun e R hR => ?_) ?_
    · have hk2 : k < ns.length := by
        have := of_decide_eq_true e
        rw [List.length_map] at this
        omega
      refine ⟨_, rfl, _, rfl, l, _, _, .int ns[k], rfl, rfl, hs, atI_nat ?_, _, rfl, hR _ _ ⟨_, rfl, ?_, rfl⟩⟩
      · rw [List.getElem?_map, List.getElem?_eq_getElem hk2]
        rfl
      · split <;> omega
    · refine ⟨_, rfl, _, _, rfl, rfl, .inl ⟨by decide, by decide⟩, _, _, rfl, rfl, hR _ _ ⟨_, rfl, by omega, rfl⟩⟩
    rintro v H' ⟨i, rfl, hi, rfl⟩
    refine ⟨_, rfl, _, _, rfl, rfl, ⟨by decide, by decide, by decide⟩, _, _, rfl, rfl, _, _, rfl, ?_⟩
    refine ⟨_, rfl, .inl ⟨_, rfl, _, _, rfl, rfl, (show (2147483549 : Int) ≠ 0 by decide), _, _, rfl, rfl, .inr ⟨by decide, by decide⟩, _, rfl, _, _, rfl, rfl, .inl ⟨by decide, by decide⟩, _, _, rfl, rfl, _, _, rfl, rfl, ?_⟩⟩
    refine .inl ⟨_, rfl, _, _, rfl, rfl, (show (2147483563 : Int) ≠ 0 by decide), _, _, rfl, rfl, ?_⟩
    refine ⟨by show 2 ≤ sizeLine; decide, fun p hp => q _ p H' (same_new hp) (Same.refl _) ⟨same_new hp, hp, _, _, ?_, ?_, ?_, upd_same⟩⟩
    · split <;> omega
    · have := Int.fmod_nonneg_of_pos (i.fmod 2147483549 * 48271 + 7583 * (k : Int) + 31) (b := 2147483563) (by decide)
      omega
    · have := Int.fmod_lt_of_pos (i.fmod 2147483549 * 48271 + 7583 * (k : Int) + 31) (b := 2147483563) (by decide)
      omega

/-! _law_draw -/
def sp_draw : Sp := fun vs H Q _ => ∃ (p : Addr) (m : Int) (D : Hp), vs = [.ref p, .int m] ∧ Wd p D H ∧ 1 ≤ m ∧ m < 1073741824 ∧ ∀ (H' : Hp) (d : Int), Wd p D H' → 0 ≤ d → d < m → Q (.int d) H'
theorem sc_draw : FnScope ["_law_pot_here", "_law_many", "_law_digit"] ["_law_pot_here", "_law_many"] (defScope s_draw) := ⟨rfl, rfl, rfl, by decide +kernel, rfl, by decide +kernel, by decide +kernel⟩
theorem ok_draw {f : Addr} {fd : FuncData} (F : Fun K "_law_draw" "_law_draw" s_draw f fd) (B : Blt mg) : FnOk P w K mg base CX0 1 f fd ["_law_pot_here", "_law_many"] sp_draw := by
  refine F.ok sc_draw (fun vs H Q E h => ?_) (fun cdv A outer s H vs Q E hr h => ?_)
  · obtain ⟨p, m, D, rfl, _⟩ := h
    rfl
  · obtain ⟨p, m, D, rfl, ⟨sD, nD, a, b, ha, hb, hb2, hp⟩, m1, m2, q⟩ := h
    refine ⟨_, pss_cons (ps_if (pt_cmpR op_gt (pe_ix ix_list (pv 0) pe_int (fun _ _ => rfl)) pe_int (nomark _))
        (pss_cons (ps_asg (pe_callB call_divmod (by rfl) B.divmod boot_divmod (pa_cons (pe_ix ix_list (pv 0) pe_int (fun _ _ => rfl)) (pa_cons (pv 1) pa_nil))) (pg_tup rfl (pgs_cons (pg_sub (pv 0) pe_int set_list) (pgs_cons (pg_name (i := 2) sc_draw.nd rfl (.inl rfl)) pgs_nil))))
        (pss_one (ps_ret (pv 2)))) pss_nil)
      (pss_cons (ps_asg (pe_op op_modN (pe_callTy call_int1 (by rfl) B.int boot_tint (pa_cons (pe_op op_add (pe_op op_mul (pe_ix ix_list (pv 0) pe_int (fun _ _ => rfl)) pe_int) pe_int) pa_nil)) pe_int) (pg_sub (pv 0) pe_int set_list))
      (pss_one (ps_ret (pe_op op_modN (pe_callTy call_int1 (by rfl) B.int boot_tint (pa_cons (pe_op op_fdivN (pe_op op_modN (pe_callTy call_int1 (by rfl) B.int boot_tint (pa_cons (pe_op op_mul (pe_ix ix_list (pv 0) pe_int (fun _ _ => rfl)) (pe_ix ix_list (pv 0) pe_int (fun _ _ => rfl))) pa_nil)) pe_int) pe_int) pa_nil)) (pv 1))))), ?_⟩
    have ix0 : atI [V.int a, V.int b] 0 = some (.int a) := rfl
    have ix1 : atI [V.int a, V.int b] 1 = some (.int b) := rfl
    refine ⟨_, rfl, p, _, _, _, rfl, rfl, SqL.mk hp, ix0, _, _, rfl, rfl, _, rfl, ?_⟩
    refine ite2 (fun e => ?_) (fun e => ?_)
    · have ha0 : 0 < a := of_decide_eq_true e
      refine ⟨_, rfl, p, _, _, _, rfl, rfl, SqL.mk hp, ix0, _, rfl, _, _, rfl, ⟨m1, m2⟩, fun t ht => ?_⟩
      have ntp : t ≠ p := (ne_of_none hp ht).symm
      refine ⟨t, _, rfl, SqT.mk upd_same, rfl, _, _, rfl, ?_⟩
      refine ⟨_, rfl, p, [V.int a, V.int b], 0, 0, rfl, rfl, ?_, rfl, ?_⟩
      · rw [upd_ne ntp.symm]
        exact hp
      refine ⟨_, _, rfl, rfl, ?_⟩
      refine ⟨_, rfl, ?_⟩
      refine q _ _ ⟨fun c o ec => ?_, nD, a / m, b, Int.ediv_nonneg ha (by omega), hb, hb2, upd_same⟩ (Int.emod_nonneg a (by omega)) (Int.emod_lt_of_pos a (by omega))
      rw [upd_ne (ne_of_none ec nD), upd_ne (ne_of_none (sD _ _ ec) ht)]
      exact sD _ _ ec
    · have hb31 : (-(2 ^ 64 : Int) < b ∧ b < 2 ^ 64) := ⟨by omega, by omega⟩
      have n87 : (2147483587 : Int) ≠ 0 := by decide
      refine ⟨_, rfl, p, _, _, _, rfl, rfl, SqL.mk hp, ix1, _, _, rfl, rfl, .inl hb31, _, _, rfl, rfl, .inl ⟨_, rfl, _, _, rfl, rfl, n87, ?_⟩⟩
      have c0 := Int.fmod_nonneg_of_pos (b * 39373 + 7583) (b := 2147483587) (by decide)
      have c1 := Int.fmod_lt_of_pos (b * 39373 + 7583) (b := 2147483587) (by decide)
      show gSub (tVar 0) (tC (.int 1)) rSetL (.int ((b * 39373 + 7583).fmod 2147483587)) _ _ _
      revert c0 c1
      generalize (b * 39373 + 7583).fmod 2147483587 = c
      intro c0 c1
      have hc31 : (-(2 ^ 64 : Int) < c ∧ c < 2 ^ 64) := ⟨by omega, by omega⟩
      refine ⟨_, rfl, p, _, 1, 1, rfl, rfl, hp, rfl, ?_⟩
      have hp2 : upd H p (.lst ([V.int a, V.int b].set 1 (.int c))) p = some (.lst [.int a, .int c]) := upd_same
      have iy1 : atI [V.int a, V.int c] 1 = some (.int c) := rfl
      refine ⟨_, rfl, p, _, _, _, rfl, rfl, SqL.mk hp2, iy1, _, rfl, p, _, _, _, rfl, rfl, SqL.mk hp2, iy1, _, _, rfl, rfl, .inl hc31, ?_⟩
      refine .inl ⟨_, rfl, _, _, rfl, rfl, (show (2147483563 : Int) ≠ 0 by decide), _, _, rfl, rfl, (show ((19 : Int) ≠ 0 ∧ (19 : Int).natAbs < 1073741824) by decide), .inl ⟨_, rfl, _, rfl, _, _, rfl, rfl, (show m ≠ 0 by omega), ?_⟩⟩
      refine q _ _ ⟨fun d o ed => ?_, nD, a, c, ha, c0, by omega, hp2⟩ (Int.fmod_nonneg_of_pos _ (by omega)) (Int.fmod_lt_of_pos _ (by omega))
      rw [upd_ne (ne_of_none ed nD)]
      exact sD _ _ ed
end
end G0

namespace G0
open PySem PySem.Spec PyProof.Rows L2
abbrev s_point : Stmt := top 32
abbrev s_given : Stmt := top 33
abbrev s_great : Stmt := top 9999
theorem yes_ite {σ : L2.St} {H : Hp} {A B : Hp → Prop} (h : A H) : tYes σ H (fun b H3 => if b = true then A H3 else B H3) := iteT (B := B H) h
theorem Wd.put {p q : Addr} {D H : Hp} {o o' : HO} (w : Wd p (upd D q o) H) (h0 : D q = none) (hp : q ≠ p) : Wd p D (upd H q o') := by
  obtain ⟨s, n, a, b, h1, h2, h3, h4⟩ := w
  rw [upd_ne hp.symm] at n
  refine ⟨fun c u e => ?_, n, a, b, h1, h2, h3, ?_⟩
  · have nc := ne_of_none e h0
    rw [upd_ne nc]
    exact s _ _ (by rw [upd_ne nc]; exact e)
  · rw [upd_ne hp.symm]
    exact h4
/-- what a helper that draws hands back -/
def Gets (p : Addr) (D : Hp) (R : V → Hp → Prop) (Q : VK) : Prop := ∀ v D' H', Same D D' → Wd p D' H' → R v D' → Q v H'
/-- three ints in a list, not all 0, none beyond the bound -/
def Trip (m : Int) (v : V) (D : Hp) : Prop := ∃ q a b c, v = .ref q ∧ D q = some (.lst ([a, b, c].map V.int)) ∧ (∃ n ∈ [a, b, c], n ≠ 0) ∧ ∀ n ∈ [a, b, c], -m ≤ n ∧ n ≤ m
section
variable {P : Program} {w : World} {K : PySem.W.Frag} {mg : Str → Option Value} {base : Heap}
/-! _law_pick -/
def sp_pick (K : PySem.W.Frag) : Sp := fun vs H Q _ => ∃ (p l : Addr) (D : Hp) (us : List V), vs = [.ref p, .ref l] ∧ Wd p D H ∧ SqL K D l us ∧ 1 ≤ us.length ∧ us.length < 1000000 ∧ ∀ (H' : Hp) (v : V), Wd p D H' → v ∈ us → Q v H'
theorem sc_pick : FnScope ["_law_pot_here", "_law_some"] ["_law_pot_here", "_law_some"] (defScope s_pick) := ⟨rfl, rfl, rfl, by decide +kernel, rfl, by decide +kernel, by decide +kernel⟩
theorem ok_pick {f f1 : Addr} {fd fd1 : FuncData} (F : Fun K "_law_pick" "_law_pick" s_pick f fd) (B : Blt mg) (D1 : Df K mg "_law_draw" s_draw ["_law_pot_here", "_law_many"] f1 fd1) (G1 : FnOk P w K mg base CX0 1 f1 fd1 ["_law_pot_here", "_law_many"] sp_draw) :
    FnOk P w K mg base CX0 2 f fd ["_law_pot_here", "_law_some"] (sp_pick K) := by
  refine F.ok sc_pick (fun vs H Q E h => ?_) (fun cdv A outer s H vs Q E hr h => ?_)
  · obtain ⟨p, l, D, us, rfl, _⟩ := h
    rfl
  · obtain ⟨p, l, D, us, rfl, wd, hs, l1, l2, q⟩ := h
    refine ⟨_, pss_one (ps_ret (pe_ix ix_list (pv 1) (pdf D1 G1 hr (pa_cons (pv 0) (pa_cons (pe_callB call_len_seq (by rfl) B.len PySem.boot_len (pa_cons (pv 1) pa_nil)) pa_nil))) (fun _ _ => rfl))), ?_⟩
    refine ⟨_, rfl, _, rfl, _, rfl, l, us, rfl, .inl (wd.s.seq hs), p, _, D, rfl, wd, by omega, by omega, fun H' d wd' d0 d1 => ?_⟩
    obtain ⟨j, rfl⟩ := Int.eq_ofNat_of_zero_le d0
    have hj : j < us.length := by omega
    exact ⟨l, us, _, us[j], rfl, rfl, wd'.s.seq hs, atI_nat (List.getElem?_eq_getElem hj), q _ _ wd' (List.getElem_mem hj)⟩

/-! _law_point -/
def sp_point : Sp := fun vs H Q _ => ∃ (p : Addr) (m : Int) (D : Hp), vs = [.ref p, .int m] ∧ Wd p D H ∧ 1 ≤ m ∧ m < 1000000 ∧ Gets p D (Trip m) Q
theorem sc_point : FnScope ["_law_pot_here", "_law_most", "_law_found", "_law_at"] ["_law_pot_here", "_law_most"] (defScope s_point) := ⟨rfl, rfl, rfl, by decide +kernel, rfl, by decide +kernel, by decide +kernel⟩
theorem three_of {ns : List Int} (h : ns.length = 3) : ∃ a b c, ns = [a, b, c] := by
  match ns, h with
  | [a, b, c], _ => exact ⟨a, b, c, rfl⟩
theorem anyB {ns : List Int} : (ns.any fun n => n != 0) = true ↔ ∃ n ∈ ns, n ≠ 0 := by
  rw [List.any_eq_true]
  constructor
  · rintro ⟨n, hn, e⟩
    exact ⟨n, hn, by simpa using e⟩
  · rintro ⟨n, hn, e⟩
    exact ⟨n, hn, by simpa using e⟩
theorem ok_point {f f1 : Addr} {fd fd1 : FuncData} (F : Fun K "_law_point" "_law_point" s_point f fd) (B : Blt mg) (D1 : Df K mg "_law_draw" s_draw ["_law_pot_here", "_law_many"] f1 fd1) (G1 : FnOk P w K mg base CX0 1 f1 fd1 ["_law_pot_here", "_law_many"] sp_draw) :
    FnOk P w K mg base CX0 2 f fd ["_law_pot_here", "_law_most"] sp_point := by
  refine F.ok sc_point (fun vs H Q E h => ?_) (fun cdv A outer s H vs Q E hr h => ?_)
  · obtain ⟨p, m, D, rfl, _⟩ := h
    rfl
  · obtain ⟨p, m, D, rfl, wd, m1, m2, q⟩ := h
    refine ⟨_, pss_cons (ps_setLc (i := 2) (own := [("_law_at", 3)]) (g := gName 3) (tt := tYes) rfl sc_point.nd rfl rfl (sw_true rfl rfl rfl (by decide +kernel)) (pi_range1 (by rfl) B.range (pa_cons pe_int pa_nil))
        (blkOk_by (N := ["_law_pot_here", "_law_most", "_law_found", "_law_at"]) (sc := defScope s_point) (by decide +kernel)) (fun _ _ _ _ _ => pg_name (i := 3) sc_point.nd rfl (Or.inl rfl)) (fun _ _ _ _ _ => pts_nil)
        (fun _ _ _ _ _ => pe_op op_sub (pdf D1 G1 hr (pa_cons (pv 0) (pa_cons (pe_op op_add (pe_op op_mul pe_int (pv 1)) pe_int) pa_nil))) (pv 1)))
      (pss_one (ps_ret (pe_ifExp (pt_val (pe_callB (cr_anyI rfl) (by rfl) B.any boot_any (pa_cons (pv 2) pa_nil))) (pv 2) (pe_lst (pa_cons pe_int (pa_cons pe_int (pa_cons (pe_op op_sub pe_int (pv 1)) pa_nil))))))), ?_⟩
    refine ⟨3, rfl, by decide, by decide, fun L hL => ?_⟩
    have L0 := wd.s.free hL
    have Lp := wd.ne hL
    refine lc_range (n := 3) (fun i H1 => ∃ acc : List Int, acc.length = i ∧ (∀ n ∈ acc, -m ≤ n ∧ n ≤ m) ∧ Wd p D H1 ∧ H1 L = some (.lst (acc.map V.int))) ⟨[], rfl, (fun _ z => nomatch z), ⟨fun b o e => ?_, wd.n, ?_⟩, upd_same⟩ ?_ ?_
    · rw [upd_ne (ne_of_none e L0)]
      exact wd.s _ _ e
    · obtain ⟨a, b, h1, h2, h3, h4⟩ := wd.pot
      exact ⟨a, b, h1, h2, h3, by rw [upd_ne Lp.symm]; exact h4⟩
    · rintro i H1 hi ⟨acc, el, hb, w1, h1⟩
      refine ⟨rfl, yes_ite ?_⟩
      refine ⟨_, rfl, _, rfl, _, _, rfl, rfl, .inl ⟨by decide, by decide⟩, _, _, rfl, rfl, p, _, _, rfl, w1.got L0 Lp h1, by omega, by omega, fun H2 d w2 d0 d1 => ?_⟩
      refine ⟨_, rfl, _, _, rfl, rfl, _, w2.s _ _ upd_same, ?_, acc ++ [d - m], ?_, ?_, w2.put L0 Lp, ?_⟩
      · rw [List.length_map]
        exact Nat.lt_of_lt_of_le (show acc.length < 3 by omega) (by decide)
      · rw [List.length_append, el]
        rfl
      · intro n hn
        rcases List.mem_append.mp hn with hn | hn
        · exact hb n hn
        · obtain rfl := List.mem_singleton.mp hn
          omega
      · rw [upd_same, List.map_append]
        rfl
    · rintro H1 ⟨acc, el, hb, w1, h1⟩
      obtain ⟨a, b, c, rfl⟩ := three_of el
      refine ⟨_, rfl, L, _, rfl, .inl (SqL.mk h1), _, rfl, ?_⟩
      have w2 := w1.got L0 Lp h1
      refine ite2 (fun e => ?_) (fun e => ?_)
      · exact ⟨_, rfl, q _ _ _ (same_new L0) w2 ⟨L, a, b, c, rfl, upd_same, anyB.mp e, hb⟩⟩
      · refine ⟨_, rfl, _, _, rfl, rfl, by show 3 ≤ sizeLine; decide, fun t ht => ?_⟩
        obtain ⟨w3, s3, h3⟩ := w1.new (same_new ht) ht upd_same
        refine q _ _ _ s3 w3 ⟨t, 0, 1, 0 - m, rfl, h3, ⟨1, by simp, by decide⟩, fun n hn => ?_⟩
        simp only [List.mem_cons, List.not_mem_nil, or_false] at hn
        omega

/-! _law_given -/
def sp_given (K : PySem.W.Frag) : Sp := fun vs H Q _ => ∃ (p l : Addr) (D : Hp) (us : List V), vs = [.ref p, .ref l] ∧ Wd p D H ∧ SqL K D l us ∧ Gets p D (fun v D' => ∃ q, v = .ref q ∧ Sq K D' q us ∧ D q = none) Q
theorem sc_given : FnScope ["_law_pot_here", "_law_point_here"] ["_law_pot_here", "_law_point_here"] (defScope s_given) := ⟨rfl, rfl, rfl, by decide +kernel, rfl, by decide +kernel, by decide +kernel⟩
theorem ok_given {f f1 : Addr} {fd fd1 : FuncData} (F : Fun K "_law_given" "_law_given" s_given f fd) (B : Blt mg) (D1 : Df K mg "_law_draw" s_draw ["_law_pot_here", "_law_many"] f1 fd1) (G1 : FnOk P w K mg base CX0 1 f1 fd1 ["_law_pot_here", "_law_many"] sp_draw) :
    FnOk P w K mg base CX0 2 f fd ["_law_pot_here", "_law_point_here"] (sp_given K) := by
  refine F.ok sc_given (fun vs H Q E h => ?_) (fun cdv A outer s H vs Q E hr h => ?_)
  · obtain ⟨p, l, D, us, rfl, _⟩ := h
    rfl
  · obtain ⟨p, l, D, us, rfl, wd, hs, q⟩ := h
    refine ⟨_, pss_one (ps_ret (pe_ifExp (pt_cmpR op_eq (pdf D1 G1 hr (pa_cons (pv 0) (pa_cons pe_int pa_nil))) pe_int (nomark _)) (pe_callTy call_tuple_of (by rfl) B.tuple boot_ttuple (pa_cons (pv 1) pa_nil)) (pe_callTy call_list_of (by rfl) B.list boot_tlist (pa_cons (pv 1) pa_nil)))), ?_⟩
    refine ⟨_, rfl, p, 2, D, rfl, wd, by decide, by decide, fun H1 d w1 d0 d1 => ⟨rfl, _, rfl, ?_⟩⟩
    refine ite2 (fun e => ?_) (fun e => ?_)
    · refine ⟨_, rfl, l, us, rfl, .inl ⟨w1.s.seq hs, fun t ht => ?_⟩⟩
      obtain ⟨w3, s3, h3⟩ := w1.new (same_new ht) ht upd_same
      exact q _ _ _ s3 w3 ⟨t, rfl, .inr (SqT.mk h3), w1.s.free ht⟩
    · refine ⟨_, rfl, l, us, rfl, .inl (w1.s.seq hs), fun t ht => ?_⟩
      obtain ⟨w3, s3, h3⟩ := w1.new (same_new ht) ht upd_same
      exact q _ _ _ s3 w3 ⟨t, rfl, .inl (SqL.mk h3), w1.s.free ht⟩
end
end G0

namespace G0
open PySem PySem.Spec PyProof.Rows L2
/-! ### zip of two of one length, each a list (true) or a tuple (false) -/
def ItZ (b1 b2 : Bool) (K : PySem.W.Frag) (a1 a2 : Addr) : It :=
  ⟨fun i H => ∃ (xs ys : List V) (x y : V), SqK b1 K H a1 xs ∧ SqK b2 K H a2 ys ∧ xs[i]? = some x ∧ ys[i]? = some y,
    fun i H v H' => ∃ T x y, v = .ref T ∧ H T = none ∧ H' = upd H T (.tup [x, y]) ∧ (∀ xs, SqK b1 K H a1 xs → xs[i]? = some x) ∧ ∀ ys, SqK b2 K H a2 ys → ys[i]? = some y,
    fun i H => ∃ xs ys : List V, SqK b1 K H a1 xs ∧ SqK b2 K H a2 ys ∧ xs.length = i ∧ ys.length = i⟩
theorem turn_Z {P : Program} {w : World} {K : PySem.W.Frag} {elts : List Expr} {kk : Nat} {tpos : Pos} (b1 b2 : Bool) {a1 a2 z TI TO i1 i2 : Addr} (S : ZipSep2 z TI TO i1 i2 [i1, a1] [i2, a2]) (n1 : a1 ≠ i1) (n2 : a2 ≠ i2) :
    Turn P w K (.Tuple elts kk tpos) (ItZ b1 b2 K a1 a2) [z, TI, TO, i1, i2] z (fun i h => IsZip h z TI TO .none ∧ IsTupOf2 h TI (.ref i1) (.ref i2) ∧ (∃ x y, IsTupOf2 h TO x y) ∧ IterK b1 h i1 a1 i ∧ IterK b2 h i2 a2 i) where
  mem := by simp
  obj := fun i h st c hc => by
    obtain ⟨hz, hTI, ⟨x, y, hTO⟩, h1, h2⟩ := st
    have e' : c = z ∨ c = TI ∨ c = TO ∨ c = i1 ∨ c = i2 := by simpa using hc
    rcases e' with q | q | q | q | q
    · rw [q]; exact ⟨_, hz, fun v q => nomatch q⟩
    · rw [q]; exact ⟨_, hTI, fun v q => nomatch q⟩
    · rw [q]; exact ⟨_, hTO, fun v q => nomatch q⟩
    · rw [q]; exact h1.obj
    · rw [q]; exact h2.obj
  keep := fun i h h' st k => by
    obtain ⟨hz, hTI, ⟨x, y, hTO⟩, h1, h2⟩ := st
    exact ⟨k z (by simp) _ hz, k TI (by simp) _ hTI, ⟨x, y, k TO (by simp) _ hTO⟩, h1.keep (k i1 (by simp)), h2.keep (k i2 (by simp))⟩
  item := by
    rintro X rfl rfl rfl hc i pins s σ H E J hf ⟨hz, hTI, ⟨x0, y0, hTO⟩, h1, h2⟩ ⟨xs, ys, x, y, hqx, hqy, hx, hy⟩
    obtain ⟨its, rv, isK, alt⟩ := seq_K J hqx
    obtain ⟨its2, rv2, isK2, alt2⟩ := seq_K J hqy
    have len := rv.length
    have len2 := rv2.length
    have ib : i < its.toArray.size := by
      have := (List.getElem?_eq_some_iff.mp hx).1
      simp
      omega
    have ib2 : i < its2.toArray.size := by
      have := (List.getElem?_eq_some_iff.mp hy).1
      simp
      omega
    have hzl : z < s.heap.objs.size := Heap.lt_size hz
    refine wpAny_pyNext_zipD2_item S (draw_K (A := X.A.in1) (J.ok.hd hc) b1 i1 a1 n1 its.toArray) (draw_K (A := X.A.in1) (J.ok.hd hc) b2 i2 a2 n2 its2.toArray) hz hTI hTO ⟨h1, isK⟩ ⟨h2, isK2⟩ ib ib2 fun u u2 h' tk hu hu2 z' TO' st1 st2 hT hsz hk => ?_
    refine ⟨_, rfl, wpAny_letOwnedTupleGo_zip (s := { s with heap := h', toks := tk }) z' fun h'' z'' sb => ?_⟩
    have hT2 : h''.get? s.heap.objs.size = some { cls := .type "tuple", data := .seq #[u, u2] } := (sb.2 _ (Nat.ne_of_gt hzl)).trans hT
    have ru : RelV x u := item_K (b := b1) (a := a1) rv hu hx
    have ru2 : RelV y u2 := item_K (b := b2) (a := a2) rv2 hu2 hy
    have new : ObjOk X.prog X.w (upd H s.heap.objs.size (.tup [x, y])) h'' s.heap.objs.size (.tup [x, y]) :=
      ⟨by show 2 ≤ sizeLine; decide, [u, u2], .cons ru (.cons ru2 .nil), ⟨_, hT2, rfl, _, rfl⟩⟩
    have J1 : Inv X pins σ (upd H s.heap.objs.size (.tup [x, y])) { s with heap := h'', toks := tk } :=
      J.turnedNew (t' := tk) (ch := [z, TI, TO, i1, i2]) (fun c o hb q => (sb.2 c (fun q' => hb (by simp [q']))).trans (hk c o (fun q' => hb (by simp [q'])) (fun q' => hb (by simp [q'])) (fun q' => hb (by simp [q'])) (fun q' => hb (by simp [q'])) q)) hf (Nat.le_refl _) new
    refine ⟨.ref s.heap.objs.size, _, J1, rfl, ⟨_, x, y, rfl, J.hok.fresh (Nat.le_refl _), rfl, fun l hl => by rw [inj_K J hl hqx]; exact hx, fun l hl => by rw [inj_K J hl hqy]; exact hy⟩, ⟨z'', ?_, ⟨u, u2, ?_⟩, ?_, ?_⟩, fun c hcm => ?_⟩
    · exact (sb.2 _ S.TIz).trans (hk _ _ S.TIz S.TITO S.TIi1 S.TIi2 hTI)
    · exact (sb.2 _ S.TOz).trans TO'
    · exact st1.1.keep fun o q => (sb.2 _ S.zi1.symm).trans q
    · exact st2.1.keep fun o q => (sb.2 _ S.zi2.symm).trans q
    · have hlt : c < s.heap.objs.size := by
        have e' : c = z ∨ c = TI ∨ c = TO ∨ c = i1 ∨ c = i2 := by simpa using hcm
        rcases e' with q | q | q | q | q
        · rw [q]; exact hzl
        · rw [q]; exact Heap.lt_size hTI
        · rw [q]; exact Heap.lt_size hTO
        · rw [q]; obtain ⟨_, e1, _⟩ := h1.obj; exact Heap.lt_size e1
        · rw [q]; obtain ⟨_, e2, _⟩ := h2.obj; exact Heap.lt_size e2
      rw [upd_ne (Nat.ne_of_lt hlt)]
      exact (hf c hcm).1
  done := by
    rintro X rfl rfl rfl hc i pins s σ H E J hf ⟨hz, hTI, ⟨x0, y0, hTO⟩, h1, h2⟩ ⟨xs, ys, hqx, hqy, l1, l2⟩
    obtain ⟨its, rv, isK, alt⟩ := seq_K J hqx
    obtain ⟨its2, rv2, isK2, alt2⟩ := seq_K J hqy
    have len := rv.length
    have len2 := rv2.length
    have es : its.toArray.size = i := by
      rw [List.size_toArray]
      omega
    have es2 : its2.toArray.size = i := by
      rw [List.size_toArray]
      omega
    exact wpAny_pyNext_zipD2_end S (draw_K (A := X.A.in1) (J.ok.hd hc) b1 i1 a1 n1 its.toArray) (draw_K (A := X.A.in1) (J.ok.hd hc) b2 i2 a2 n2 its2.toArray) hz hTI hTO ⟨h1, isK⟩ ⟨h2, isK2⟩ (Nat.le_of_eq es.symm) (Nat.le_of_eq es2.symm) (.inl es.symm) fun h' tk hk => ⟨rfl, J.turnedL (t' := tk) (ch := [z, TI, TO, i1, i2]) (fun c o hb q =>
      hk c o (fun q' => hb (by simp [q'])) (fun q' => hb (by simp [q'])) (fun q' => hb (by simp [q'])) (fun q' => hb (by simp [q'])) q) hf⟩
  self := fun A i s Q E st h => wpAny_pyIter_zip st.1 h
theorem not_two {x a b : Addr} (h1 : x ≠ a) (h2 : x ≠ b) : x ∉ [a, b] := by
  intro h
  rcases List.mem_cons.mp h with q | q
  · exact h1 q
  · exact h2 (List.mem_singleton.mp q)
theorem up {n k : Nat} (h : 0 < k) : ((n + k : Nat) : Addr) ≠ (n : Addr) := fun e => Nat.ne_of_gt (Nat.lt_add_of_pos_right h) e
theorem upa {n k a : Nat} (h : a < n) : ((n + k : Nat) : Addr) ≠ (a : Addr) := fun e => Nat.ne_of_gt (Nat.lt_of_lt_of_le h (Nat.le_add_right n k)) e
theorem ups {n j k : Nat} (h : j ≠ k) : ((n + j : Nat) : Addr) ≠ ((n + k : Nat) : Addr) := fun e => h (Nat.add_left_cancel e)
theorem zip_sep {n a1 a2 : Nat} (la : a1 < n) (lb : a2 < n) : ZipSep2 (n + 4) (n + 2) (n + 3) n (n + 1) [n, a1] [n + 1, a2] where
  TIz := ups (by decide)
  TOz := ups (by decide)
  TITO := ups (by decide)
  TIi1 := up (by decide)
  mem1 := by simp
  zf1 := not_two (up (by decide)) (upa la)
  Tf1 := not_two (up (by decide)) (upa la)
  TIi2 := ups (by decide)
  mem2 := by simp
  zf2 := not_two (ups (by decide)) (upa lb)
  Tf2 := not_two (ups (by decide)) (upa lb)
  sep1_2 := not_two (up (by decide)).symm (fun e => Nat.ne_of_gt lb e)
  sep2_1 := not_two (up (by decide)) (upa la)
def iZ (b1 b2 : Bool) (K : PySem.W.Frag) (ta : TA) : TI := fun σ H R => ta σ H fun vs H1 => ∃ a1 a2 xs ys, vs = [.ref a1, .ref a2] ∧ SqK b1 K H1 a1 xs ∧ SqK b2 K H1 a2 ys ∧ R (ItZ b1 b2 K a1 a2) H1
theorem pi_Z (b1 b2 : Bool) {X : Cx} {e e2 : Expr} {ta : TA} {p pos tpos : Pos} {elts : List Expr} {kk : Nat} (hg : Gl X "zip") (hm : X.mg "zip" = none) (ha : PA X [e, e2] ta)
    (hs : starEach [e, e2] X.env = (false, eval e X.env) :: starEach [e2] X.env := by rfl) (hpl : (backTo pos (starEach [e2] X.env)).any (·.1) = false := by rfl) :
    PI X (.Tuple elts kk tpos) (.Call (.Name "zip" p) [e, e2] [] pos) (iZ b1 b2 X.K ta) := by
  refine ⟨fun pins s σ H R I h => ?_⟩
  refine Call_ (ld_blt I hg hm PyProof.Rows.boot_zip (PyProof.Rows.callWith_type1 (thn (ha.run pos pins s σ H _ I h) fun us s1 ⟨vs, H1, I1, r1, q1⟩ => ?_) hs hpl))
  obtain ⟨a1, a2, xs, ys, rfl, hqx, hqy, q⟩ := q1
  cases r1 with
  | cons r rr =>
    cases rr with
    | cons r' rr =>
      cases rr
      cases r
      cases r'
      obtain ⟨its, rv, isK, la⟩ := seq_K I1 hqx
      obtain ⟨its2, rv2, isK2, lb⟩ := seq_K I1 hqy
      refine zip_begins2 (begin_K b1 a1 its.toArray) (begin_K b2 a2 its2.toArray) isK isK2 fun h' hz hTI hTO h1 h2 hsz hk => wpAny_pyIter_zip hz ?_
      have I2 : Inv X pins σ H1 { s1 with heap := h' } := I1.kept (t' := s1.toks) hk
      have S : ZipSep2 (s1.heap.objs.size + 4) (s1.heap.objs.size + 2) (s1.heap.objs.size + 3) s1.heap.objs.size (s1.heap.objs.size + 1) [s1.heap.objs.size, a1] [s1.heap.objs.size + 1, a2] := by
        exact zip_sep la lb
      refine ⟨s1.heap.objs.size + 4, [s1.heap.objs.size + 4, s1.heap.objs.size + 2, s1.heap.objs.size + 3, s1.heap.objs.size, s1.heap.objs.size + 1], _, _, H1, rfl, I2, turn_Z b1 b2 S (Nat.ne_of_lt la) (Nat.ne_of_lt (Nat.lt_succ_of_lt lb)), ⟨hz, hTI, ⟨_, _, hTO⟩, iter_K h1, iter_K h2⟩, fun c hcm => ?_, q⟩
      have e' : c = s1.heap.objs.size + 4 ∨ c = s1.heap.objs.size + 2 ∨ c = s1.heap.objs.size + 3 ∨ c = s1.heap.objs.size ∨ c = s1.heap.objs.size + 1 := by simpa using hcm
      have hle : s1.heap.objs.size ≤ c := by
        rcases e' with q | q | q | q | q
        · rw [q]; exact Nat.le_add_right _ _
        · rw [q]; exact Nat.le_add_right _ _
        · rw [q]; exact Nat.le_add_right _ _
        · rw [q]; exact Nat.le_refl _
        · rw [q]; exact Nat.le_add_right _ _
      exact I1.fpOk hle (I1.hok.fresh hle)
theorem walk_Z {b1 b2 : Bool} {K : PySem.W.Frag} {a1 a2 : Addr} {xs ys : List V} {n : Nat} (l1 : xs.length = n) (l2 : ys.length = n) : Walk (ItZ b1 b2 K a1 a2) n (fun H => SqK b1 K H a1 xs ∧ SqK b2 K H a2 ys) (YPair (fun i => xs[i]?) (fun i => ys[i]?)) := by
  subst l1
  refine ⟨fun i _ hi q => ?_, fun _ q => ⟨xs, ys, q.1, q.2, rfl, l2⟩, fun i H v H' _ q y => ?_⟩
  · exact ⟨xs, ys, xs[i], ys[i]'(by omega), q.1, q.2, by simp [hi], by simp⟩
  · obtain ⟨T, x, z, h1, h2, h3, h4, h5⟩ := y
    exact ⟨T, x, z, h1, h2, h3, h4 xs q.1, h5 ys q.2⟩
end G0

namespace G0
open PySem PySem.Spec PyProof.Rows L2
section
variable {X : Cx} {pos : Pos}
/-- (a, b, ..) = a list (true) or a tuple (false) of that length -/
def gSeq (k : Bool) (K : PySem.W.Frag) (n : Nat) (t : TGs) : TG := fun v σ H Q => ∃ a xs, v = .ref a ∧ SqK k K H a xs ∧ xs.length = n ∧ t xs σ H Q
theorem pg_seq (kd : Bool) {es : List Expr} {k : Nat} {t : TGs} {n : Nat} (hc : X.calm = true) (h : PGs X es t)
    (hn : (assignEach es X.env).length = n := by rfl) (hst : (assignEach es X.env).findIdx? (·.1) = none := by rfl) : PG X (.Tuple es k pos) (gSeq kd X.K n t) := by
  refine ⟨fun pins s σ H v u Q I r hw => ?_⟩
  obtain ⟨a, xs, rfl, hq, hl, hw⟩ := hw
  cases r
  cases kd with
  | false =>
    obtain ⟨its, rv, ht, hz⟩ := I.tuple hq
    refine assign_Tuple_tuple (I.ok.hd hc) ht (by simp [hn, ← hl, rv.length]) hst fun h' hx => ?_
    have I1 : Inv X pins σ H { s with heap := h' } := I.kept (t' := s.toks) fun b o e => hx b o (Nat.ne_of_lt (Heap.lt_size e)) e
    exact h.run pins _ σ H xs _ Q I1 (by simpa using rv) hw
  | true =>
    obtain ⟨its, rv, isK, la⟩ := seq_K (b := true) I hq
    rw [assign_Tuple]
    refine wpAny_bind (wpAny_standAt ?_)
    unfold unpack
    have e1 : (assignEach es X.env).length = its.toArray.size := by simp [hn, ← hl, rv.length]
    rw [e1, hst]
    refine wpAny_bind (wpAny_holding (PySem.W.kun_itemsOf (I.ok.hd hc) isK fun h' hx => ?_))
    have I1 : Inv X pins σ H { s with heap := h' } := I.kept (t' := s.toks) fun b o e => hx b o (Nat.ne_of_lt (Heap.lt_size e)) e
    exact h.run pins _ σ H xs _ Q I1 (by simpa using rv) hw
end
end G0

namespace G0
open PySem PySem.Spec PyProof.Rows L2
section
variable {K : PySem.W.Frag} {a : Addr} {xs : List V} {g : TG} {tt : TT} {te : TE} {vs : List Nat} {σ : L2.St} {H1 : Hp} {D : Addr} {Qd : Hp → Prop}
/-- a comprehension that adds F i for the i-th item -/
theorem lcI (F : Nat → V) (hl : SqL K H1 a xs) (hn : xs.length < sizeLine) (hD : H1 D = none) (t : ∀ i x, xs[i]? = some x → ∀ H, Same H1 H → ∀ (G : V → Hp → Prop) (N : Hp → Prop), (∀ H', Same H H' → G (F i) H') → g x (wipe σ vs) H fun σ2 H2 => wipe σ2 vs = wipe σ vs ∧ tt σ2 H2 fun b H3 => if b = true then te σ2 H3 G else N H3)
    (hd : ∀ H, Same H1 H → H D = some (.lst ((List.range' 0 xs.length).map F)) → Qd H) :
    ∃ W : Nat → Nat → Hp → Prop, (∃ m, W 0 m (upd H1 D (.lst []))) ∧ ∀ i m H, W i m H →
      ((Itl K a).stop i H ∧ Qd H) ∨ ((Itl K a).go i H ∧ ∃ Nx : Hp → Prop, (∀ H', Nx H' → ∃ m', m' < m ∧ W (i + 1) m' H') ∧ ∀ x H', (Itl K a).yld i H x H' → g x (wipe σ vs) H' fun σ2 H2 => wipe σ2 vs = wipe σ vs ∧ tt σ2 H2 fun b H3 =>
        if b = true then te σ2 H3 fun y H4 => ∃ acc, H4 D = some (.lst acc) ∧ acc.length < sizeLine ∧ Nx (upd H4 D (.lst (acc ++ [y]))) else Nx H3) :=
  lc_list (xs := xs) (fun i H => Same H1 H ∧ H D = some (.lst ((List.range' 0 i).map F))) ⟨same_new hD, upd_same⟩ (fun _ _ _ h => h.1.seq hl)
    (fun i x H hx h => t i x hx H h.1 _ _ fun H' s => by
      have hi := (List.getElem?_eq_some_iff.mp hx).1
      refine ⟨_, s _ _ h.2, ?_, fun b o eb => ?_, ?_⟩
      · rw [List.length_map, List.length_range']
        omega
      · rw [upd_ne (ne_of_none eb hD)]
        exact (h.1.trans s) _ _ eb
      · rw [upd_same, List.range'_concat, List.map_append]
        simp) (fun H h => hd H h.1 h.2)
/-- a comprehension over a tuple -/
theorem lcIT (F : Nat → V) (hl : SqT K H1 a xs) (hn : xs.length < sizeLine) (hD : H1 D = none) (t : ∀ i x, xs[i]? = some x → ∀ H, Same H1 H → ∀ (G : V → Hp → Prop) (N : Hp → Prop), (∀ H', Same H H' → G (F i) H') → g x (wipe σ vs) H fun σ2 H2 => wipe σ2 vs = wipe σ vs ∧ tt σ2 H2 fun b H3 => if b = true then te σ2 H3 G else N H3)
    (hd : ∀ H, Same H1 H → H D = some (.lst ((List.range' 0 xs.length).map F)) → Qd H) :
    ∃ W : Nat → Nat → Hp → Prop, (∃ m, W 0 m (upd H1 D (.lst []))) ∧ ∀ i m H, W i m H →
      ((Itt K a).stop i H ∧ Qd H) ∨ ((Itt K a).go i H ∧ ∃ Nx : Hp → Prop, (∀ H', Nx H' → ∃ m', m' < m ∧ W (i + 1) m' H') ∧ ∀ x H', (Itt K a).yld i H x H' → g x (wipe σ vs) H' fun σ2 H2 => wipe σ2 vs = wipe σ vs ∧ tt σ2 H2 fun b H3 =>
        if b = true then te σ2 H3 fun y H4 => ∃ acc, H4 D = some (.lst acc) ∧ acc.length < sizeLine ∧ Nx (upd H4 D (.lst (acc ++ [y]))) else Nx H3) :=
  lc_tup (xs := xs) (fun i H => Same H1 H ∧ H D = some (.lst ((List.range' 0 i).map F))) ⟨same_new hD, upd_same⟩ (fun _ _ _ h => same_t h.1 hl)
    (fun i x H hx h => t i x hx H h.1 _ _ fun H' s => by
      have hi := (List.getElem?_eq_some_iff.mp hx).1
      refine ⟨_, s _ _ h.2, ?_, fun b o eb => ?_, ?_⟩
      · rw [List.length_map, List.length_range']
        omega
      · rw [upd_ne (ne_of_none eb hD)]
        exact (h.1.trans s) _ _ eb
      · rw [upd_same, List.range'_concat, List.map_append]
        simp) (fun H h => hd H h.1 h.2)
end
end G0

namespace G0
open PySem PySem.Spec PyProof.Rows L2
/-- over what is a list or a tuple, as it comes -/
def iAny (K : PySem.W.Frag) (tl : TE) : TI := fun σ H R => iList K tl σ H R ∨ iTup K tl σ H R
theorem pi_any {X : Cx} {tg l : Expr} {tl : TE} (hl : PE X l tl) : PI X tg l (iAny X.K tl) :=
  ⟨fun pins s σ H R I h => h.elim (fun h => (pi_list hl).run pins s σ H R I h) (fun h => (pi_tup hl).run pins s σ H R I h)⟩
end G0

namespace G0
open PySem PySem.Spec PyProof.Rows L2
abbrev s_dot : Stmt := top 15
abbrev s_crossed : Stmt := top 16
abbrev s_determinant : Stmt := top 17
theorem boot_sum0 : bootBuiltins "sum" = some (.builtin "sum") := by decide +kernel
theorem ne_of_none' {H : Hp} {a b : Addr} {o : HO} (h : H b = some o) (n : H a = none) : a ≠ b := fun e => by
  rw [e, h] at n
  cases n
theorem _root_.L2.Same.put {H H' : Hp} {L : Addr} {o : HO} (e : Same H H') (h : H L = none) : Same H (upd H' L o) := fun b u eb => by
  rw [upd_ne (ne_of_none eb h)]
  exact e _ _ eb
/-- the sum of products, by place -/
def dotI : List Int → List Int → Int
  | n :: ns, m :: ms => n * m + dotI ns ms
  | _, _ => 0
def mulI : List Int → List Int → List Int
  | n :: ns, m :: ms => n * m :: mulI ns ms
  | _, _ => []
theorem mulI_sum : ∀ ns ms : List Int, (mulI ns ms).sum = dotI ns ms
  | n :: ns, m :: ms => by
    simp only [mulI, dotI, List.sum_cons, mulI_sum ns ms]
  | [], _ => by simp [mulI, dotI]
  | _ :: _, [] => by simp [mulI, dotI]
theorem mulI_take : ∀ (ns ms : List Int) (i : Nat) {n m : Int}, ns[i]? = some n → ms[i]? = some m → (mulI ns ms).take (i + 1) = (mulI ns ms).take i ++ [n * m] ∧ (mulI ns ms)[i]? = some (n * m)
  | [], _, _, _, _, h, _ => by simp at h
  | _ :: _, [], _, _, _, _, h => by simp at h
  | a :: ns, b :: ms, 0, n, m, h1, h2 => by
    cases h1
    cases h2
    simp [mulI]
  | a :: ns, b :: ms, i + 1, n, m, h1, h2 => by
    obtain ⟨e1, e2⟩ := mulI_take ns ms i (show ns[i]? = some n from h1) (show ms[i]? = some m from h2)
    simp only [mulI, List.take_succ_cons, e1, List.cons_append, true_and]
    exact e2
theorem mulI_len : ∀ {ns ms : List Int}, ns.length = ms.length → (mulI ns ms).length = ns.length
  | [], _, _ => by simp [mulI]
  | _ :: _, [], h => by cases h
  | n :: ns, m :: ms, h => by
    simp only [mulI, List.length_cons, mulI_len (Nat.succ.inj h)]
section
variable {P : Program} {w : World} {K : PySem.W.Frag} {mg : Str → Option Value} {base : Heap}
def sp_dot (K : PySem.W.Frag) : Sp := fun vs H Q _ => ∃ (p q : Addr) (ns ms : List Int), vs = [.ref p, .ref q] ∧ Sq K H p (ns.map V.int) ∧ Sq K H q (ms.map V.int) ∧ ns.length = ms.length ∧ ns.length ≤ 1000 ∧ (∀ n ∈ ns, n.natAbs < 2 ^ 64) ∧
  ∀ H', Same H H' → Q (.int (dotI ns ms)) H'
theorem sc_dot : FnScope ["numbers", "others", "number", "other"] ["numbers", "others"] (defScope s_dot) := ⟨rfl, rfl, rfl, by decide +kernel, rfl, by decide +kernel, by decide +kernel⟩
theorem ok_dot {f : Addr} {fd : FuncData} (F : Fun K "dot" "dot" s_dot f fd) (nZ : mg "zip" = none) (nS : mg "sum" = none) : FnOk P w K mg base CX0 1 f fd ["numbers", "others"] (sp_dot K) := by
  refine F.ok sc_dot (fun vs H Q E h => ?_) (fun cdv A outer s H vs Q E hr h => ?_)
  · obtain ⟨p, q, ns, ms, rfl, _⟩ := h
    rfl
  · obtain ⟨p, q, ns, ms, rfl, h1, h2, hl, hn, hb, k⟩ := h
    obtain ⟨k1, h1⟩ := h1.kind
    obtain ⟨k2, h2⟩ := h2.kind
    refine ⟨_, pss_one (ps_ret (pe_callB (cr_sum rfl) (by rfl) nS boot_sum0 (pa_cons (pe_lc (own := [("number", 2), ("other", 3)]) (g := gTup K 2 (gCons (gName 2) (gCons (gName 3) gNil))) (tt := tYes) rfl sc_dot.nd (pi_Z k1 k2 (by rfl) nZ (pa_cons (pv 0) (pa_cons (pv 1) pa_nil)))
      (blkOk_by (N := ["numbers", "others", "number", "other"]) (sc := defScope s_dot) (by decide +kernel)) (fun _ _ _ _ _ => pg_tup rfl (pgs_cons (pg_name (i := 2) sc_dot.nd rfl (.inl rfl)) (pgs_cons (pg_name (i := 3) sc_dot.nd rfl (.inl rfl)) pgs_nil))) (fun _ _ _ _ _ => pts_nil) (fun _ _ _ _ _ => pe_op op_mul (pv 2) (pv 3))) pa_nil))), ?_⟩
    have l1 : (ns.map V.int).length = ns.length := List.length_map _
    have l2 : (ms.map V.int).length = ns.length := by rw [List.length_map, hl]
    refine ⟨_, rfl, _, rfl, p, q, _, _, rfl, h1, h2, fun D hD => lc_it (walk_Z (b1 := k1) (b2 := k2) l1 l2) (fun i H1 => Same H H1 ∧ H1 D = some (.lst (((mulI ns ms).take i).map V.int))) ⟨same_new hD, upd_same⟩ (fun i H1 _ h => ⟨h1.same h.1, h2.same h.1⟩) ?_ ?_⟩
    · rintro i y H1 H2 hi ⟨s1, d1⟩ ⟨Tp, x, z, rfl, nT, rfl, ex, ez⟩
      have ex' : (ns.map V.int)[i]? = some x := ex
      have ez' : (ms.map V.int)[i]? = some z := ez
      rw [List.getElem?_map] at ex' ez'
      obtain ⟨n, en, rfl⟩ := Option.map_eq_some_iff.mp ex'
      obtain ⟨m, em, rfl⟩ := Option.map_eq_some_iff.mp ez'
      have bn := hb n (List.mem_of_getElem? en)
      have e64 : (2 : Nat) ^ 64 = 18446744073709551616 := rfl
      refine ⟨Tp, _, rfl, SqT.mk upd_same, rfl, _, _, rfl, _, _, rfl, rfl, rfl, yes_ite ?_⟩
      have nTD : Tp ≠ D := ne_of_none' d1 nT
      obtain ⟨t1, _⟩ := mulI_take ns ms i en em
      refine ⟨_, rfl, _, rfl, _, _, rfl, rfl, .inl ⟨by omega, by omega⟩, _, by rw [upd_ne nTD.symm]; exact d1, ?_, (s1.trans (same_new nT)).put hD, ?_⟩
      · rw [List.length_map, List.length_take, mulI_len hl, sizeLine_eq]
        omega
      · rw [upd_same, t1, List.map_append]
        rfl
    · rintro H1 ⟨s1, d1⟩
      refine ⟨D, mulI ns ms, rfl, SqL.mk ?_, ?_⟩
      · rw [← mulI_len hl, List.take_length] at d1
        exact d1
      · rw [mulI_sum]
        exact k _ s1
end
end G0

namespace G0
open PySem PySem.Spec PyProof.Rows L2
def crossL : List Int → List Int → List Int
  | [a, b, c], [d, e, f] => [b * f - c * e, c * d - a * f, a * e - b * d]
  | _, _ => []
section
variable {P : Program} {w : World} {K : PySem.W.Frag} {mg : Str → Option Value} {base : Heap}
def sp_crossed (K : PySem.W.Frag) : Sp := fun vs H Q _ => ∃ (p q : Addr) (a b c d e f : Int), vs = [.ref p, .ref q] ∧ Sq K H p ([a, b, c].map V.int) ∧ Sq K H q ([d, e, f].map V.int) ∧ (∀ n ∈ [a, b, c], n.natAbs < 2 ^ 64) ∧
  ∀ H' r, Same H H' → H r = none → H' r = some (.lst ([b * f - c * e, c * d - a * f, a * e - b * d].map V.int)) → Q (.ref r) H'
theorem sc_crossed : FnScope ["one", "other", "a", "b", "c", "d", "e", "f"] ["one", "other"] (defScope s_crossed) := ⟨rfl, rfl, rfl, by decide +kernel, rfl, by decide +kernel, by decide +kernel⟩
theorem ok_crossed {fn : Addr} {fd : FuncData} (F : Fun K "crossed" "crossed" s_crossed fn fd) : FnOk P w K mg base CX0 1 fn fd ["one", "other"] (sp_crossed K) := by
  refine F.ok sc_crossed (fun vs H Q E h => ?_) (fun cdv A outer s H vs Q E hr h => ?_)
  · obtain ⟨p, q, a, b, c, d, e, f, rfl, _⟩ := h
    rfl
  · obtain ⟨p, q, a, b, c, d, e, f, rfl, h1, h2, hb, k⟩ := h
    obtain ⟨k1, h1⟩ := h1.kind
    obtain ⟨k2, h2⟩ := h2.kind
    refine ⟨_, pss_cons (ps_asg (pv 0) (pg_seq k1 rfl (pgs_cons (pg_name (i := 2) sc_crossed.nd rfl (.inl rfl)) (pgs_cons (pg_name (i := 3) sc_crossed.nd rfl (.inl rfl)) (pgs_cons (pg_name (i := 4) sc_crossed.nd rfl (.inl rfl)) pgs_nil)))))
      (pss_cons (ps_asg (pv 1) (pg_seq k2 rfl (pgs_cons (pg_name (i := 5) sc_crossed.nd rfl (.inl rfl)) (pgs_cons (pg_name (i := 6) sc_crossed.nd rfl (.inl rfl)) (pgs_cons (pg_name (i := 7) sc_crossed.nd rfl (.inl rfl)) pgs_nil)))))
      (pss_one (ps_ret (pe_lst (pa_cons (pe_op op_sub (pe_op op_mul (pv 3) (pv 7)) (pe_op op_mul (pv 4) (pv 6))) (pa_cons (pe_op op_sub (pe_op op_mul (pv 4) (pv 5)) (pe_op op_mul (pv 2) (pv 7))) (pa_cons (pe_op op_sub (pe_op op_mul (pv 2) (pv 6)) (pe_op op_mul (pv 3) (pv 5))) pa_nil))))))), ?_⟩
    have e64 : (2 : Nat) ^ 64 = 18446744073709551616 := rfl
    have ba := hb a (by simp)
    have bb := hb b (by simp)
    have bc := hb c (by simp)
    have ca : ∀ m, CMul a m := fun m => .inl ⟨by omega, by omega⟩
    have cb : ∀ m, CMul b m := fun m => .inl ⟨by omega, by omega⟩
    have cc : ∀ m, CMul c m := fun m => .inl ⟨by omega, by omega⟩
    refine ⟨_, rfl, p, _, rfl, h1, rfl, _, _, rfl, _, _, rfl, _, _, rfl, rfl, ?_⟩
    refine ⟨_, rfl, q, _, rfl, h2, rfl, _, _, rfl, _, _, rfl, _, _, rfl, rfl, ?_⟩
    refine ⟨_, rfl, _, rfl, _, _, rfl, rfl, cb _, _, rfl, _, rfl, _, _, rfl, rfl, cc _, _, _, rfl, rfl, ?_⟩
    refine ⟨_, rfl, _, rfl, _, _, rfl, rfl, cc _, _, rfl, _, rfl, _, _, rfl, rfl, ca _, _, _, rfl, rfl, ?_⟩
    refine ⟨_, rfl, _, rfl, _, _, rfl, rfl, ca _, _, rfl, _, rfl, _, _, rfl, rfl, cb _, _, _, rfl, rfl, ?_⟩
    exact ⟨by show 3 ≤ sizeLine; decide, fun r hr => k _ r (same_new hr) hr upd_same⟩
/-- determinant of three rows of three, each a list or a tuple -/
def detL (a b c d e f g h i : Int) : Int := dotI [a, b, c] [e * i - f * h, f * g - d * i, d * h - e * g]
def sp_det (K : PySem.W.Frag) : Sp := fun vs H Q _ => ∃ (l p q r : Addr) (a b c d e f g h i : Int), vs = [.ref l] ∧ Sq K H l [.ref p, .ref q, .ref r] ∧ Sq K H p ([a, b, c].map V.int) ∧ Sq K H q ([d, e, f].map V.int) ∧ Sq K H r ([g, h, i].map V.int) ∧ (∀ n ∈ [a, b, c, d, e, f], n.natAbs < 2 ^ 64) ∧
  ∀ H', Same H H' → Q (.int (detL a b c d e f g h i)) H'
theorem sc_det : FnScope ["rows"] ["rows"] (defScope s_determinant) := ⟨rfl, rfl, rfl, by decide +kernel, rfl, by decide +kernel, by decide +kernel⟩
theorem ok_det {fn f1 f2 : Addr} {fd fd1 fd2 : FuncData} (F : Fun K "determinant" "determinant" s_determinant fn fd) (D1 : Df K mg "dot" s_dot ["numbers", "others"] f1 fd1) (G1 : FnOk P w K mg base CX0 1 f1 fd1 ["numbers", "others"] (sp_dot K))
    (D2 : Df K mg "crossed" s_crossed ["one", "other"] f2 fd2) (G2 : FnOk P w K mg base CX0 1 f2 fd2 ["one", "other"] (sp_crossed K)) : FnOk P w K mg base CX0 2 fn fd ["rows"] (sp_det K) := by
  refine F.ok sc_det (fun vs H Q E h => ?_) (fun cdv A outer s H vs Q E hr h => ?_)
  · obtain ⟨l, p, q, r, a, b, c, d, e, f, g, h, i, rfl, _⟩ := h
    rfl
  · obtain ⟨l, p, q, r, a, b, c, d, e, f, g, h, i, rfl, hl, h1, h2, h3, hb, k⟩ := h
    have two : ∀ n ∈ [d, e, f], n.natAbs < 2 ^ 64 := fun n hn => hb n (by simp only [List.mem_cons, List.not_mem_nil, or_false] at hn ⊢; rcases hn with z | z | z <;> simp [z])
    have one : ∀ n ∈ [a, b, c], n.natAbs < 2 ^ 64 := fun n hn => hb n (by simp only [List.mem_cons, List.not_mem_nil, or_false] at hn ⊢; rcases hn with z | z | z <;> simp [z])
    rcases hl with hl | hl
    · refine ⟨_, pss_one (ps_ret (pdf D1 G1 hr (pa_cons (pe_ix ix_list (pv 0) pe_int (fun _ _ => rfl)) (pa_cons (pdf D2 G2 hr (pa_cons (pe_ix ix_list (pv 0) pe_int (fun _ _ => rfl)) (pa_cons (pe_ix ix_list (pv 0) pe_int (fun _ _ => rfl)) pa_nil))) pa_nil)))), ?_⟩
      refine ⟨_, rfl, l, _, 0, .ref p, rfl, rfl, hl, rfl, ?_⟩
      refine ⟨_, rfl, l, _, 1, .ref q, rfl, rfl, hl, rfl, ?_⟩
      refine ⟨_, rfl, l, _, 2, .ref r, rfl, rfl, hl, rfl, ?_⟩
      refine ⟨q, r, d, e, f, g, h, i, rfl, h2, h3, two, fun H1 x s1 n1 x1 => ?_⟩
      exact ⟨p, x, _, _, rfl, h1.same s1, .inl (SqL.mk x1), rfl, by show 3 ≤ 1000; decide, one, fun H2 s2 => k _ (s1.trans s2)⟩
    · refine ⟨_, pss_one (ps_ret (pdf D1 G1 hr (pa_cons (pe_ix ix_tup (pv 0) pe_int (fun _ _ => rfl)) (pa_cons (pdf D2 G2 hr (pa_cons (pe_ix ix_tup (pv 0) pe_int (fun _ _ => rfl)) (pa_cons (pe_ix ix_tup (pv 0) pe_int (fun _ _ => rfl)) pa_nil))) pa_nil)))), ?_⟩
      refine ⟨_, rfl, l, _, 0, .ref p, rfl, rfl, hl, rfl, ?_⟩
      refine ⟨_, rfl, l, _, 1, .ref q, rfl, rfl, hl, rfl, ?_⟩
      refine ⟨_, rfl, l, _, 2, .ref r, rfl, rfl, hl, rfl, ?_⟩
      refine ⟨q, r, d, e, f, g, h, i, rfl, h2, h3, two, fun H1 x s1 n1 x1 => ?_⟩
      exact ⟨p, x, _, _, rfl, h1.same s1, .inl (SqL.mk x1), rfl, by show 3 ≤ 1000; decide, one, fun H2 s2 => k _ (s1.trans s2)⟩
end
end G0

namespace G0
open PySem PySem.Spec PyProof.Rows L2
/-! ### any value, as far as the program looks at it -/
inductive AV where
  | int (n : Int)
  | other
  | seq (xs : List AV)
mutual
inductive AVal (K : PySem.W.Frag) (H : Hp) : V → AV → Prop where
  | int (n : Int) : AVal K H (.int n) (.int n)
  | other {v : V} {t : Value} {i b : Bool} (ty : TyX K H v t) (k1 : PySem.W.kitOne K t (.type "int") = some i) (k2 : PySem.W.kitOne K t (.type "bool") = some b) (no : (i && !b) = false) (k3 : PySem.W.kitOne K t (.type "list") = some false) (k4 : PySem.W.kitOne K t (.type "tuple") = some false) : AVal K H v .other
  | seq {a : Addr} {vs : List V} {xs : List AV} (h : Sq K H a vs) (hs : AVals K H vs xs) : AVal K H (.ref a) (.seq xs)
inductive AVals (K : PySem.W.Frag) (H : Hp) : List V → List AV → Prop where
  | nil : AVals K H [] []
  | cons {v : V} {vs : List V} {x : AV} {xs : List AV} : AVal K H v x → AVals K H vs xs → AVals K H (v :: vs) (x :: xs)
end
theorem tyof_same {K : PySem.W.Frag} {H H' : Hp} {v : V} {t : Value} (e : Same H H') (h : TyOf K H v t) : TyOf K H' v t := by
  cases h with
  | non => exact .non
  | bl b => exact .bl b
  | int n => exact .int n
  | str z => exact .str z
  | flt z => exact .flt z
  | lst q => exact .lst (e _ _ q)
  | frz q => exact .frz (e _ _ q)
  | tup q => exact .tup (e _ _ q)
  | dK q => exact .dK (e _ _ q)
  | dT q => exact .dT (e _ _ q)
  | ins q cl ha hn htk hm => exact .ins (e _ _ q) cl ha hn htk hm
theorem tyx_same {K : PySem.W.Frag} {H H' : Hp} {v : V} {t : Value} (e : Same H H') (h : TyX K H v t) : TyX K H' v t := by
  cases h with
  | base h => exact .base (tyof_same e h)
  | byt b => exact .byt b
  | set q => exact .set (e _ _ q)
  | kList q c => exact .kList q c
  | kTuple q c => exact .kTuple q c
  | kDict q c => exact .kDict q c
  | fTuple q => exact .fTuple (e _ _ q)
  | fDict q => exact .fDict (e _ _ q)
mutual
theorem AVal.same {K : PySem.W.Frag} {H H' : Hp} (e : Same H H') : ∀ {v : V} {x : AV}, AVal K H v x → AVal K H' v x
  | _, _, .int n => .int n
  | _, _, .other ty k1 k2 no k3 k4 => .other (tyx_same e ty) k1 k2 no k3 k4
  | _, _, .seq h hs => .seq (h.same e) (AVals.same e hs)
theorem AVals.same {K : PySem.W.Frag} {H H' : Hp} (e : Same H H') : ∀ {vs : List V} {xs : List AV}, AVals K H vs xs → AVals K H' vs xs
  | _, _, .nil => .nil
  | _, _, .cons h hs => .cons (AVal.same e h) (AVals.same e hs)
end
def AV.isInt : AV → Bool
  | .int _ => true
  | _ => false
def AV.isSeq : AV → Bool
  | .seq _ => true
  | _ => false
def AV.isThree : AV → Bool
  | .seq xs => decide (xs.length = 3) && xs.all AV.isInt
  | _ => false
theorem AVals.len {K : PySem.W.Frag} {H : Hp} : ∀ {vs : List V} {xs : List AV}, AVals K H vs xs → vs.length = xs.length
  | _, _, .nil => rfl
  | _, _, .cons _ h => by rw [List.length_cons, List.length_cons, AVals.len h]
theorem AVals.at {K : PySem.W.Frag} {H : Hp} : ∀ {vs : List V} {xs : List AV} {i : Nat} {v : V}, AVals K H vs xs → vs[i]? = some v → ∃ x, xs[i]? = some x ∧ AVal K H v x
  | _, _, 0, _, .cons h _, e => by
    cases e
    exact ⟨_, rfl, h⟩
  | _, _, i + 1, _, .cons _ h, e => AVals.at (i := i) h e
section
variable {P : Program} {w : World} {K : PySem.W.Frag} {mg : Str → Option Value} {base : Heap}
def sp_intA (K : PySem.W.Frag) : Sp := fun vs H Q _ => ∃ (v : V) (x : AV), vs = [v] ∧ AVal K H v x ∧ Q (.bl x.isInt) H
theorem kit_li {K : PySem.W.Frag} : PySem.W.kitOne K (.type "list") (.type "int") = some false := rfl
theorem kit_ti {K : PySem.W.Frag} : PySem.W.kitOne K (.type "tuple") (.type "int") = some false := rfl
theorem ok_intA {f : Addr} {fd : FuncData} (F : Fun K "is_integer" "is_integer" s_is_integer f fd) (B : Blt mg) : FnOk P w K mg base CX0 1 f fd ["value"] (sp_intA K) := by
  refine F.ok sc_is_integer (fun vs H Q E h => ?_) (fun cdv A outer s H vs Q E hr h => ?_)
  · obtain ⟨v, x, rfl, _⟩ := h
    rfl
  · obtain ⟨v, x, rfl, hv, q⟩ := h
    refine ⟨_, pss_one (ps_ret (pe_and (pe_callB call_isi (by rfl) B.isinstance boot_isi (pa_cons (pv 0) (pa_cons (pty B.int boot_tint) pa_nil)))
      (pe_one (pe_not (pe_callB call_isi (by rfl) B.isinstance boot_isi (pa_cons (pv 0) (pa_cons (pty B.bool boot_tbool) pa_nil))))))), ?_⟩
    cases hv with
    | int n =>
      refine ⟨_, rfl, _, _, _, _, true, rfl, .ty "int", .base (.int n), kit_ii, true, rfl, iteT ?_⟩
      exact ⟨_, rfl, _, _, _, _, false, rfl, .ty "bool", .base (.int n), kit_ib, false, rfl, q⟩
    | @other _ t i b ty k1 k2 no k3 k4 =>
      refine ⟨_, rfl, _, _, _, _, i, rfl, .ty "int", ty, k1, i, rfl, ?_⟩
      cases i with
      | false => exact iteF q
      | true =>
        refine iteT ?_
        cases b with
        | true => exact ⟨_, rfl, _, _, _, _, true, rfl, .ty "bool", ty, k2, true, rfl, q⟩
        | false => cases no
    | seq h hs =>
      rcases h with h | h
      · exact ⟨_, rfl, _, _, _, _, false, rfl, .ty "int", ty_l h, kit_li, false, rfl, iteF q⟩
      · exact ⟨_, rfl, _, _, _, _, false, rfl, .ty "int", ty_t h, kit_ti, false, rfl, iteF q⟩
def sp_listA (K : PySem.W.Frag) : Sp := fun vs H Q _ => ∃ (v : V) (x : AV), vs = [v] ∧ AVal K H v x ∧ ∀ H', Same H H' → Q (.bl x.isSeq) H'
theorem kit_il {K : PySem.W.Frag} : PySem.W.kitOne K (.type "int") (.type "list") = some false := rfl
theorem kit_it {K : PySem.W.Frag} : PySem.W.kitOne K (.type "int") (.type "tuple") = some false := rfl
theorem ok_listA {f : Addr} {fd : FuncData} (F : Fun K "is_list" "is_list" s_is_list f fd) (B : Blt mg) : FnOk P w K mg base CX0 1 f fd ["value"] (sp_listA K) := by
  refine F.ok sc_is_list (fun vs H Q E h => ?_) (fun cdv A outer s H vs Q E hr h => ?_)
  · obtain ⟨v, x, rfl, _⟩ := h
    rfl
  · obtain ⟨v, x, rfl, hv, q⟩ := h
    refine ⟨_, pss_one (ps_ret (pe_callB call_isiT (by rfl) B.isinstance boot_isi (pa_cons (pv 0) (pa_cons (pe_tup (pa_cons (pty B.list boot_tlist) (pa_cons (pty B.tuple boot_ttuple) pa_nil))) pa_nil)))), ?_⟩
    refine ⟨_, rfl, by show 2 ≤ sizeLine; decide, fun p hp => ?_⟩
    have s1 : Same H (upd H p (.tup [.ty "list", .ty "tuple"])) := same_new hp
    have q1 := q _ s1
    cases hv with
    | int n => exact ⟨_, p, _, _, _, false, rfl, upd_same, .cons (.ty "list") (.cons (.ty "tuple") .nil), .base (.int n), kitAny_cons (r := false) kit_il (fun _ => kitAny_cons kit_it (fun _ => rfl) (fun z => nomatch z)) (fun z => nomatch z), q1⟩
    | other ty k1 k2 no k3 k4 => exact ⟨_, p, _, _, _, false, rfl, upd_same, .cons (.ty "list") (.cons (.ty "tuple") .nil), tyx_same s1 ty, kitAny_cons (r := false) k3 (fun _ => kitAny_cons k4 (fun _ => rfl) (fun z => nomatch z)) (fun z => nomatch z), q1⟩
    | seq hs hq =>
      rcases hs with hs | hs
      · exact ⟨_, p, _, _, _, true, rfl, upd_same, .cons (.ty "list") (.cons (.ty "tuple") .nil), ty_l (s1.seq hs), kitAny_cons kit_ll (fun z => nomatch z) fun _ => rfl, q1⟩
      · exact ⟨_, p, _, _, _, true, rfl, upd_same, .cons (.ty "list") (.cons (.ty "tuple") .nil), ty_t (same_t s1 hs), kitAny_cons (r := true) kit_tl (fun _ => kitAny_cons kit_tt (fun z => nomatch z) fun _ => rfl) (fun z => nomatch z), q1⟩
end
end G0

namespace G0
open PySem PySem.Spec PyProof.Rows L2
def isIntV : V → Bool
  | .int _ => true
  | _ => false
theorem AVal.isInt {K : PySem.W.Frag} {H : Hp} {v : V} {x : AV} (h : AVal K H v x) : isIntV v = x.isInt := by
  cases h with
  | int n => rfl
  | @other _ t i b ty k1 k2 no k3 k4 =>
    cases v with
    | int n =>
      exfalso
      cases ty with
      | base h =>
        cases h
        rw [kit_ii] at k1
        rw [kit_ib] at k2
        cases k1
        cases k2
        cases no
    | _ => rfl
  | seq h hs => rfl
theorem AVals.isInt {K : PySem.W.Frag} {H : Hp} : ∀ {vs : List V} {xs : List AV}, AVals K H vs xs → (vs.map isIntV).all id = xs.all AV.isInt
  | _, _, .nil => rfl
  | _, _, .cons h hs => by
    have e := AVal.isInt h
    have ih := AVals.isInt hs
    simp only [List.map_cons, List.all_cons, e, ih, id]
section
variable {P : Program} {w : World} {K : PySem.W.Frag} {mg : Str → Option Value} {base : Heap}
def sp_threeA (K : PySem.W.Frag) : Sp := fun vs H Q _ => ∃ (v : V) (x : AV), vs = [v] ∧ AVal K H v x ∧ (∀ xs, x = .seq xs → xs.length < 1000000) ∧ ∀ H', Same H H' → Q (.bl x.isThree) H'
theorem fx_isInt : ∀ vs : List V, fm (fun v => some (.bl (isIntV v))) vs = (vs.map isIntV).map V.bl
  | [] => rfl
  | v :: vs => by
    show V.bl (isIntV v) :: fm _ vs = _
    rw [fx_isInt vs]
    rfl
theorem ok_threeA {f f1 f2 : Addr} {fd fd1 fd2 : FuncData} (F : Fun K "is_three" "is_three" s_is_three f fd) (B : Blt mg) (D1 : Df K mg "is_integer" s_is_integer ["value"] f1 fd1) (D2 : Df K mg "is_list" s_is_list ["value"] f2 fd2) :
    FnOk P w K mg base CX0 2 f fd ["value"] (sp_threeA K) := by
  have G1 : FnOk P w K mg base CX0 1 f1 fd1 ["value"] (sp_intA K) := ok_intA D1.F B
  have G2 : FnOk P w K mg base CX0 1 f2 fd2 ["value"] (sp_listA K) := ok_listA D2.F B
  refine F.ok sc_is_three (fun vs H Q E h => ?_) (fun cdv A outer s H vs Q E hr h => ?_)
  · obtain ⟨v, x, rfl, _⟩ := h
    rfl
  · obtain ⟨v, x, rfl, hv, sz, q⟩ := h
    cases hv with
    | int n =>
      refine ⟨_, pss_one (ps_ret (pe_and (pdf D2 G2 hr (pa_cons (pv 0) pa_nil)) (pe_and (pe_cmpR op_eq (pe_callB call_len_seq (by rfl) B.len PySem.boot_len (pa_cons (pv 0) pa_nil)) pe_int (nomark _))
        (pe_one (pe_callB (cr_all rfl) (by rfl) B.all boot_all (pa_cons (pe_lc (own := [("number", 1)]) (g := gName 1) (tt := tYes) rfl sc_is_three.nd (pi_list (pv 0)) (blkOk_by (N := ["value", "number"]) (sc := defScope s_is_three) (by decide +kernel)) (fun _ _ _ _ _ => pg_name (i := 1) sc_is_three.nd rfl (Or.inl rfl))
          (fun _ _ _ _ _ => pts_nil) (fun _ _ _ _ _ => pdf D1 G1 hr (pa_cons (pv 1) pa_nil))) pa_nil)))))), ?_⟩
      exact ⟨_, rfl, _, _, rfl, .int n, fun H1 s1 => ⟨false, rfl, iteF (q _ s1)⟩⟩
    | other ty k1 k2 no k3 k4 =>
      refine ⟨_, pss_one (ps_ret (pe_and (pdf D2 G2 hr (pa_cons (pv 0) pa_nil)) (pe_and (pe_cmpR op_eq (pe_callB call_len_seq (by rfl) B.len PySem.boot_len (pa_cons (pv 0) pa_nil)) pe_int (nomark _))
        (pe_one (pe_callB (cr_all rfl) (by rfl) B.all boot_all (pa_cons (pe_lc (own := [("number", 1)]) (g := gName 1) (tt := tYes) rfl sc_is_three.nd (pi_list (pv 0)) (blkOk_by (N := ["value", "number"]) (sc := defScope s_is_three) (by decide +kernel)) (fun _ _ _ _ _ => pg_name (i := 1) sc_is_three.nd rfl (Or.inl rfl))
          (fun _ _ _ _ _ => pts_nil) (fun _ _ _ _ _ => pdf D1 G1 hr (pa_cons (pv 1) pa_nil))) pa_nil)))))), ?_⟩
      exact ⟨_, rfl, _, _, rfl, .other ty k1 k2 no k3 k4, fun H1 s1 => ⟨false, rfl, iteF (q _ s1)⟩⟩
    | @seq a vs xs hs hq =>
      have lv := AVals.len hq
      have sz0 := sz xs rfl
      have e3 : (3 : Int) = ((3 : Nat) : Int) := rfl
      have no3 : ¬ xs.length = 3 → AV.isThree (.seq xs) = false := fun z => by simp [AV.isThree, z]
      have yes3 : xs.length = 3 → AV.isThree (.seq xs) = xs.all AV.isInt := fun z => by simp [AV.isThree, z]
      have turn : ∀ x, x ∈ vs → ∀ H1 : Hp, Same H H1 → Turn1 (gName 1) tYes (tCall (sp_intA K) [] E0 (tCons (tVar 1) tNil)) [1] [some (.ref a), none] (fun v => some (.bl (isIntV v))) x H1 := by
        intro x hx H1 s1 G N h1 h2
        obtain ⟨i, hi⟩ := List.getElem?_of_mem hx
        obtain ⟨y, _, hy⟩ := AVals.at hq hi
        refine ⟨rfl, iteT (B := N H1) ?_⟩
        exact ⟨_, rfl, x, y, rfl, hy.same s1, h2 _ (by show some (V.bl (isIntV x)) = _; rw [hy.isInt]) _ (Same.refl _)⟩
      rcases hs with hs | hs
      · refine ⟨_, pss_one (ps_ret (pe_and (pdf D2 G2 hr (pa_cons (pv 0) pa_nil)) (pe_and (pe_cmpR op_eq (pe_callB call_len_seq (by rfl) B.len PySem.boot_len (pa_cons (pv 0) pa_nil)) pe_int (nomark _))
          (pe_one (pe_callB (cr_all rfl) (by rfl) B.all boot_all (pa_cons (pe_lc (own := [("number", 1)]) (g := gName 1) (tt := tYes) rfl sc_is_three.nd (pi_list (pv 0)) (blkOk_by (N := ["value", "number"]) (sc := defScope s_is_three) (by decide +kernel)) (fun _ _ _ _ _ => pg_name (i := 1) sc_is_three.nd rfl (Or.inl rfl))
            (fun _ _ _ _ _ => pts_nil) (fun _ _ _ _ _ => pdf D1 G1 hr (pa_cons (pv 1) pa_nil))) pa_nil)))))), ?_⟩
        refine ⟨_, rfl, _, _, rfl, .seq (.inl hs) hq, fun H1 s1 => ⟨true, rfl, iteT ?_⟩⟩
        refine ⟨_, rfl, a, _, rfl, .inl (s1.seq hs), rfl, ?_⟩
        by_cases h3 : xs.length = 3
        · rw [show decide (V.int ((vs.length : Nat) : Int) = V.int 3) = true from decide_eq_true (by rw [lv, h3]; rfl)]
          refine ⟨true, rfl, iteT ?_⟩
          refine ⟨_, rfl, a, rfl, ⟨_, s1.seq hs⟩, fun D hD => lcL (fun v => some (.bl (isIntV v))) (s1.seq hs) (by rw [lv, h3]; decide) hD (fun x hx H2 s2 => turn x hx H2 (s1.trans s2)) fun H2 s2 h2 => ?_⟩
          rw [fx_isInt] at h2
          refine ⟨D, vs.map isIntV, rfl, SqL.mk h2, ?_⟩
          rw [AVals.isInt hq, ← yes3 h3]
          exact q _ (s1.trans s2)
        · rw [show decide (V.int ((vs.length : Nat) : Int) = V.int 3) = false from decide_eq_false (fun z => h3 (by have := V.int.inj z; omega))]
          refine ⟨false, rfl, iteF ?_⟩
          rw [← no3 h3]
          exact q _ s1
      · refine ⟨_, pss_one (ps_ret (pe_and (pdf D2 G2 hr (pa_cons (pv 0) pa_nil)) (pe_and (pe_cmpR op_eq (pe_callB call_len_seq (by rfl) B.len PySem.boot_len (pa_cons (pv 0) pa_nil)) pe_int (nomark _))
          (pe_one (pe_callB (cr_all rfl) (by rfl) B.all boot_all (pa_cons (pe_lc (own := [("number", 1)]) (g := gName 1) (tt := tYes) rfl sc_is_three.nd (pi_tup (pv 0)) (blkOk_by (N := ["value", "number"]) (sc := defScope s_is_three) (by decide +kernel)) (fun _ _ _ _ _ => pg_name (i := 1) sc_is_three.nd rfl (Or.inl rfl))
            (fun _ _ _ _ _ => pts_nil) (fun _ _ _ _ _ => pdf D1 G1 hr (pa_cons (pv 1) pa_nil))) pa_nil)))))), ?_⟩
        refine ⟨_, rfl, _, _, rfl, .seq (.inr hs) hq, fun H1 s1 => ⟨true, rfl, iteT ?_⟩⟩
        refine ⟨_, rfl, a, _, rfl, .inr (same_t s1 hs), rfl, ?_⟩
        by_cases h3 : xs.length = 3
        · rw [show decide (V.int ((vs.length : Nat) : Int) = V.int 3) = true from decide_eq_true (by rw [lv, h3]; rfl)]
          refine ⟨true, rfl, iteT ?_⟩
          refine ⟨_, rfl, a, rfl, ⟨_, same_t s1 hs⟩, fun D hD => lcT (fun v => some (.bl (isIntV v))) (same_t s1 hs) (by rw [lv, h3]; decide) hD (fun x hx H2 s2 => turn x hx H2 (s1.trans s2)) fun H2 s2 h2 => ?_⟩
          rw [fx_isInt] at h2
          refine ⟨D, vs.map isIntV, rfl, SqL.mk h2, ?_⟩
          rw [AVals.isInt hq, ← yes3 h3]
          exact q _ (s1.trans s2)
        · rw [show decide (V.int ((vs.length : Nat) : Int) = V.int 3) = false from decide_eq_false (fun z => h3 (by have := V.int.inj z; omega))]
          refine ⟨false, rfl, iteF ?_⟩
          rw [← no3 h3]
          exact q _ s1
end
end G0

namespace G0
open PySem PySem.Spec PyProof.Rows L2
def ptB (a b c : Int) : Bool := decide (a ≠ 0) || (decide (b ≠ 0) || (decide (c ≠ 0) || false))
def AV.isPoint : AV → Bool
  | .seq [.int a, .int b, .int c] => ptB a b c
  | _ => false
theorem AV.three {x : AV} (h : x.isThree = true) : ∃ a b c, x = .seq [.int a, .int b, .int c] := by
  cases x with
  | int n => cases h
  | other => cases h
  | seq xs =>
    have h' : (decide (xs.length = 3) && xs.all AV.isInt) = true := h
    rw [Bool.and_eq_true, decide_eq_true_iff] at h'
    obtain ⟨h1, h2⟩ := h'
    match xs, h1, h2 with
    | [x, y, z], _, h2 =>
      simp only [List.all_cons, List.all_nil, Bool.and_true, Bool.and_eq_true] at h2
      obtain ⟨hx, hy, hz⟩ := h2
      cases x <;> cases hx
      cases y <;> cases hy
      cases z <;> cases hz
      exact ⟨_, _, _, rfl⟩
theorem AV.noPoint {x : AV} (h : x.isThree = false) : x.isPoint = false := by
  unfold AV.isPoint
  split
  · cases h
  · rfl
theorem AVals.ints {K : PySem.W.Frag} {H : Hp} : ∀ {vs : List V} {ns : List Int}, AVals K H vs (ns.map AV.int) → vs = ns.map V.int
  | _, [], .nil => rfl
  | _, n :: ns, h => by
    cases h with
    | cons h1 h2 =>
      cases h1
      rw [AVals.ints h2]
      rfl
theorem AVal.three {K : PySem.W.Frag} {H : Hp} {v : V} {a b c : Int} (h : AVal K H v (.seq [.int a, .int b, .int c])) : ∃ p, v = .ref p ∧ Sq K H p ([a, b, c].map V.int) := by
  cases h with
  | seq hs hq =>
    have e := AVals.ints (ns := [a, b, c]) hq
    subst e
    exact ⟨_, rfl, hs⟩
section
variable {P : Program} {w : World} {K : PySem.W.Frag} {mg : Str → Option Value} {base : Heap}
def sp_pointA (K : PySem.W.Frag) : Sp := fun vs H Q _ => ∃ (v : V) (x : AV), vs = [v] ∧ AVal K H v x ∧ (∀ xs, x = .seq xs → xs.length < 1000000) ∧ ∀ H', Same H H' → Q (.bl x.isPoint) H'
theorem ok_pointA {f f1 f2 f3 : Addr} {fd fd1 fd2 fd3 : FuncData} (F : Fun K "is_point" "is_point" s_is_point f fd) (B : Blt mg) (D1 : Df K mg "is_three" s_is_three ["value"] f1 fd1)
    (D2 : Df K mg "is_integer" s_is_integer ["value"] f2 fd2) (D3 : Df K mg "is_list" s_is_list ["value"] f3 fd3) : FnOk P w K mg base CX0 3 f fd ["value"] (sp_pointA K) := by
  have G1 : FnOk P w K mg base CX0 2 f1 fd1 ["value"] (sp_threeA K) := ok_threeA D1.F B D2 D3
  refine F.ok sc_is_point (fun vs H Q E h => ?_) (fun cdv A outer s H vs Q E hr h => ?_)
  · obtain ⟨v, x, rfl, _⟩ := h
    rfl
  · obtain ⟨v, x, rfl, hv, sz, q⟩ := h
    cases h3 : x.isThree with
    | false =>
      refine ⟨_, pss_one (ps_ret (pe_and (pdf D1 G1 hr (pa_cons (pv 0) pa_nil)) (pe_one (pe_callB (cr_any rfl) (by rfl) B.any boot_any (pa_cons (pe_lc (own := [("number", 1)]) (g := gName 1) (tt := tYes) rfl sc_is_point.nd (pi_list (pv 0)) (blkOk_by (N := ["value", "number"]) (sc := defScope s_is_point) (by decide +kernel)) (fun _ _ _ _ _ => pg_name (i := 1) sc_is_point.nd rfl (Or.inl rfl))
        (fun _ _ _ _ _ => pts_nil) (fun _ _ _ _ _ => pe_cmpR op_ne (pv 1) pe_int (nomark _))) pa_nil))))), ?_⟩
      refine ⟨_, rfl, v, x, rfl, hv, sz, fun H1 s1 => ?_⟩
      rw [h3]
      refine ⟨false, rfl, iteF ?_⟩
      rw [← AV.noPoint h3]
      exact q _ s1
    | true =>
      obtain ⟨a, b, c, rfl⟩ := AV.three h3
      obtain ⟨p, rfl, hs⟩ := hv.three
      let FN : V → Option V := fun x => match x with | .int n => some (.bl (decide (n ≠ 0))) | _ => none
      have t1 : ∀ x, x ∈ [a, b, c].map V.int → ∀ H1 : Hp, Turn1 (gName 1) tYes (tOp rNe (tVar 1) (tC (.int 0))) [1] [some (.ref p), none] FN x H1 := by
        intro x hx H1 G N g1 g2
        obtain ⟨n, hn, rfl⟩ := mem_int hx
        refine ⟨rfl, iteT (B := N H1) ?_⟩
        refine ⟨_, rfl, rfl, g2 _ ?_ _ (Same.refl _)⟩
        show some (V.bl (decide (n ≠ 0))) = some (V.bl (!decide (V.int n = V.int 0)))
        by_cases h0 : n = 0 <;> simp [h0]
      rcases hs with hs | hs
      · refine ⟨_, pss_one (ps_ret (pe_and (pdf D1 G1 hr (pa_cons (pv 0) pa_nil)) (pe_one (pe_callB (cr_any rfl) (by rfl) B.any boot_any (pa_cons (pe_lc (own := [("number", 1)]) (g := gName 1) (tt := tYes) rfl sc_is_point.nd (pi_list (pv 0)) (blkOk_by (N := ["value", "number"]) (sc := defScope s_is_point) (by decide +kernel)) (fun _ _ _ _ _ => pg_name (i := 1) sc_is_point.nd rfl (Or.inl rfl))
          (fun _ _ _ _ _ => pts_nil) (fun _ _ _ _ _ => pe_cmpR op_ne (pv 1) pe_int (nomark _))) pa_nil))))), ?_⟩
        refine ⟨_, rfl, _, _, rfl, hv, sz, fun H1 s1 => ⟨true, rfl, iteT ?_⟩⟩
        have hs1 := s1.seq hs
        refine ⟨_, rfl, p, rfl, ⟨_, hs1⟩, fun D hD => lcL FN hs1 (by show 3 < sizeLine; decide) hD (fun x hx H2 _ => t1 x hx H2) fun H2 s2 h2 => ?_⟩
        exact ⟨D, [decide (a ≠ 0), decide (b ≠ 0), decide (c ≠ 0)], rfl, SqL.mk h2, q _ (s1.trans s2)⟩
      · refine ⟨_, pss_one (ps_ret (pe_and (pdf D1 G1 hr (pa_cons (pv 0) pa_nil)) (pe_one (pe_callB (cr_any rfl) (by rfl) B.any boot_any (pa_cons (pe_lc (own := [("number", 1)]) (g := gName 1) (tt := tYes) rfl sc_is_point.nd (pi_tup (pv 0)) (blkOk_by (N := ["value", "number"]) (sc := defScope s_is_point) (by decide +kernel)) (fun _ _ _ _ _ => pg_name (i := 1) sc_is_point.nd rfl (Or.inl rfl))
          (fun _ _ _ _ _ => pts_nil) (fun _ _ _ _ _ => pe_cmpR op_ne (pv 1) pe_int (nomark _))) pa_nil))))), ?_⟩
        refine ⟨_, rfl, _, _, rfl, hv, sz, fun H1 s1 => ⟨true, rfl, iteT ?_⟩⟩
        have hs1 := same_t s1 hs
        refine ⟨_, rfl, p, rfl, ⟨_, hs1⟩, fun D hD => lcT FN hs1 (by show 3 < sizeLine; decide) hD (fun x hx H2 _ => t1 x hx H2) fun H2 s2 h2 => ?_⟩
        exact ⟨D, [decide (a ≠ 0), decide (b ≠ 0), decide (c ≠ 0)], rfl, SqL.mk h2, q _ (s1.trans s2)⟩
end
end G0

namespace G0
open PySem PySem.Spec PyProof.Rows L2
abbrev s_is_three_by_three : Stmt := top 14
abbrev s_is_table : Stmt := top 24
def AV.isRows : AV → Bool
  | .seq xs => decide (xs.length = 3) && xs.all AV.isThree
  | _ => false
def AV.isTable : AV → Bool
  | .seq [.seq [.int a, .int b, .int c], .seq [.int d, .int e, .int f], .seq [.int g, .int h, .int i]] => decide (detL a b c d e f g h i ≠ 0)
  | _ => false
theorem AV.rows {x : AV} (h : x.isRows = true) : ∃ a b c d e f g h i, x = .seq [.seq [.int a, .int b, .int c], .seq [.int d, .int e, .int f], .seq [.int g, .int h, .int i]] := by
  cases x with
  | int n => cases h
  | other => cases h
  | seq xs =>
    have h' : (decide (xs.length = 3) && xs.all AV.isThree) = true := h
    rw [Bool.and_eq_true, decide_eq_true_iff] at h'
    obtain ⟨h1, h2⟩ := h'
    match xs, h1, h2 with
    | [x, y, z], _, h2 =>
      simp only [List.all_cons, List.all_nil, Bool.and_true, Bool.and_eq_true] at h2
      obtain ⟨hx, hy, hz⟩ := h2
      obtain ⟨a, b, c, rfl⟩ := AV.three hx
      obtain ⟨d, e, f, rfl⟩ := AV.three hy
      obtain ⟨g, h, i, rfl⟩ := AV.three hz
      exact ⟨_, _, _, _, _, _, _, _, _, rfl⟩
theorem AV.noTable {x : AV} (h : x.isRows = false) : x.isTable = false := by
  unfold AV.isTable
  split
  · cases h
  · rfl
/-- what is asked of a value's sizes -/
structure AvOk (x : AV) : Prop where
  len : ∀ xs, x = .seq xs → xs.length < 1000000
  rows : ∀ xs, x = .seq xs → ∀ y ∈ xs, ∀ ys, y = .seq ys → ys.length < 1000000
  nums : ∀ a b c d e f g h i, x = .seq [.seq [.int a, .int b, .int c], .seq [.int d, .int e, .int f], .seq [.int g, .int h, .int i]] → ∀ n ∈ [a, b, c, d, e, f], n.natAbs < 2 ^ 30
section
variable {P : Program} {w : World} {K : PySem.W.Frag} {mg : Str → Option Value} {base : Heap}
theorem rows_at {H : Hp} {vs : List V} {a b c d e f g h i : Int} (hq : AVals K H vs [.seq [.int a, .int b, .int c], .seq [.int d, .int e, .int f], .seq [.int g, .int h, .int i]]) :
    ∃ p q r, vs = [.ref p, .ref q, .ref r] ∧ Sq K H p ([a, b, c].map V.int) ∧ Sq K H q ([d, e, f].map V.int) ∧ Sq K H r ([g, h, i].map V.int) := by
  cases hq with
  | cons h1 t1 =>
    cases t1 with
    | cons h2 t2 =>
      cases t2 with
      | cons h3 t3 =>
        cases t3
        obtain ⟨p, rfl, m1⟩ := h1.three
        obtain ⟨q, rfl, m2⟩ := h2.three
        obtain ⟨r, rfl, m3⟩ := h3.three
        exact ⟨p, q, r, rfl, m1, m2, m3⟩
def sp_tableA (K : PySem.W.Frag) : Sp := fun vs H Q _ => ∃ (v : V) (x : AV), vs = [v] ∧ AVal K H v x ∧ AvOk x ∧ ∀ H', Same H H' → Q (.bl x.isTable) H'
theorem sc_33 : FnScope ["value", "row"] ["value"] (defScope s_is_three_by_three) := ⟨rfl, rfl, rfl, by decide +kernel, rfl, by decide +kernel, by decide +kernel⟩
theorem ok_33 {f f1 f2 f3 : Addr} {fd fd1 fd2 fd3 : FuncData} (F : Fun K "is_three_by_three" "is_three_by_three" s_is_three_by_three f fd) (B : Blt mg) (D1 : Df K mg "is_list" s_is_list ["value"] f1 fd1) (G1 : FnOk P w K mg base CX0 1 f1 fd1 ["value"] (sp_listA K))
    (D2 : Df K mg "is_three" s_is_three ["value"] f2 fd2) (G2 : FnOk P w K mg base CX0 2 f2 fd2 ["value"] (sp_threeA K)) (D3 : Df K mg "determinant" s_determinant ["rows"] f3 fd3) (G3 : FnOk P w K mg base CX0 2 f3 fd3 ["rows"] (sp_det K)) :
    FnOk P w K mg base CX0 3 f fd ["value"] (sp_tableA K) := by
  refine F.ok sc_33 (fun vs H Q E h => ?_) (fun cdv A outer s H vs Q E hr h => ?_)
  · obtain ⟨v, x, rfl, _⟩ := h
    rfl
  · obtain ⟨v, x, rfl, hv, ok, q⟩ := h
    have r1 : Room 1 _ := hr.mono (by decide)
    cases hv with
    | int n =>
      refine ⟨_, pss_cons (ps_if (PW.pt (pw_or (pt_not (pt_val (pdf D1 G1 r1 (pa_cons (pv 0) pa_nil)))) (pw_or (pt_cmpR op_ne (pe_callB call_len_seq (by rfl) B.len PySem.boot_len (pa_cons (pv 0) pa_nil)) pe_int (nomark _)) (pw_or1 (pt_not (pt_val (pe_callB (cr_all rfl) (by rfl) B.all boot_all (pa_cons (pe_lc (own := [("row", 1)]) (g := gName 1) (tt := tYes) rfl sc_33.nd (pi_list (pv 0)) (blkOk_by (N := ["value", "row"]) (sc := defScope s_is_three_by_three) (by decide +kernel)) (fun _ _ _ _ _ => pg_name (i := 1) sc_33.nd rfl (Or.inl rfl))
        (fun _ _ _ _ _ => pts_nil) (fun _ _ _ _ _ => pdf D2 G2 hr (pa_cons (pv 1) pa_nil))) pa_nil)))))))) (pss_one (ps_ret pe_bl)) pss_nil)
        (pss_one (ps_ret (pe_cmpR op_ne (pdf D3 G3 hr (pa_cons (pv 0) pa_nil)) pe_int (nomark _)))), ?_⟩
      refine ⟨_, rfl, _, _, rfl, .int n, fun H1 s1 => ⟨false, rfl, iteT ?_⟩⟩
      exact q _ s1
    | other ty k1 k2 no k3 k4 =>
      refine ⟨_, pss_cons (ps_if (PW.pt (pw_or (pt_not (pt_val (pdf D1 G1 r1 (pa_cons (pv 0) pa_nil)))) (pw_or (pt_cmpR op_ne (pe_callB call_len_seq (by rfl) B.len PySem.boot_len (pa_cons (pv 0) pa_nil)) pe_int (nomark _)) (pw_or1 (pt_not (pt_val (pe_callB (cr_all rfl) (by rfl) B.all boot_all (pa_cons (pe_lc (own := [("row", 1)]) (g := gName 1) (tt := tYes) rfl sc_33.nd (pi_list (pv 0)) (blkOk_by (N := ["value", "row"]) (sc := defScope s_is_three_by_three) (by decide +kernel)) (fun _ _ _ _ _ => pg_name (i := 1) sc_33.nd rfl (Or.inl rfl))
        (fun _ _ _ _ _ => pts_nil) (fun _ _ _ _ _ => pdf D2 G2 hr (pa_cons (pv 1) pa_nil))) pa_nil)))))))) (pss_one (ps_ret pe_bl)) pss_nil)
        (pss_one (ps_ret (pe_cmpR op_ne (pdf D3 G3 hr (pa_cons (pv 0) pa_nil)) pe_int (nomark _)))), ?_⟩
      refine ⟨_, rfl, _, _, rfl, .other ty k1 k2 no k3 k4, fun H1 s1 => ⟨false, rfl, iteT ?_⟩⟩
      exact q _ s1
    | @seq a vs xs hs hq =>
      have lv := AVals.len hq
      rcases hs with hs | hs
      · refine ⟨_, pss_cons (ps_if (PW.pt (pw_or (pt_not (pt_val (pdf D1 G1 r1 (pa_cons (pv 0) pa_nil)))) (pw_or (pt_cmpR op_ne (pe_callB call_len_seq (by rfl) B.len PySem.boot_len (pa_cons (pv 0) pa_nil)) pe_int (nomark _)) (pw_or1 (pt_not (pt_val (pe_callB (cr_all rfl) (by rfl) B.all boot_all (pa_cons (pe_lc (own := [("row", 1)]) (g := gName 1) (tt := tYes) rfl sc_33.nd (pi_list (pv 0)) (blkOk_by (N := ["value", "row"]) (sc := defScope s_is_three_by_three) (by decide +kernel)) (fun _ _ _ _ _ => pg_name (i := 1) sc_33.nd rfl (Or.inl rfl))
          (fun _ _ _ _ _ => pts_nil) (fun _ _ _ _ _ => pdf D2 G2 hr (pa_cons (pv 1) pa_nil))) pa_nil)))))))) (pss_one (ps_ret pe_bl)) pss_nil)
          (pss_one (ps_ret (pe_cmpR op_ne (pdf D3 G3 hr (pa_cons (pv 0) pa_nil)) pe_int (nomark _)))), ?_⟩
        refine ⟨_, rfl, _, _, rfl, .seq (.inl hs) hq, fun H1 s1 => ⟨true, rfl, iteF ?_⟩⟩
        refine ⟨_, rfl, a, _, rfl, .inl (s1.seq hs), rfl, _, rfl, ?_⟩
        by_cases h3 : xs.length = 3
        · rw [show (!decide (V.int ((vs.length : Nat) : Int) = V.int 3)) = false from by rw [lv, h3]; rfl]
          refine iteF ?_
          obtain ⟨x, y, z, rfl⟩ : ∃ x y z, xs = [x, y, z] := by
            match xs, h3 with
            | [x, y, z], _ => exact ⟨x, y, z, rfl⟩
          let FX : Nat → V := fun i => V.bl (match i with | 0 => x.isThree | 1 => y.isThree | _ => z.isThree)
          refine ⟨_, rfl, a, rfl, ⟨_, s1.seq hs⟩, fun D hD => lcI FX (s1.seq hs) (by rw [lv]; show 3 < sizeLine; decide) hD (fun i v hv H2 s2 G N gk => ?_) fun H2 s2 h2 => ?_⟩
          · obtain ⟨u, hu, av⟩ := AVals.at hq hv
            have mu := List.mem_of_getElem? hu
            refine ⟨rfl, yes_ite ?_⟩
            refine ⟨_, rfl, v, u, rfl, av.same (s1.trans s2), fun ys e => ok.rows _ rfl u mu ys e, fun H3 s3 => ?_⟩
            have eF : FX i = V.bl u.isThree := by
              match i, hu with
              | 0, hu =>
                cases hu
                rfl
              | 1, hu =>
                cases hu
                rfl
              | 2, hu =>
                cases hu
                rfl
            rw [← eF]
            exact gk _ s3
          · have e2 : vs.length = 3 := by rw [lv]; rfl
            rw [e2] at h2
            refine ⟨D, [x.isThree, y.isThree, z.isThree], rfl, SqL.mk h2, ?_⟩
            have ea : [x.isThree, y.isThree, z.isThree].all id = AV.isRows (.seq [x, y, z]) := by simp [AV.isRows]
            rw [ea]
            have s12 := s1.trans s2
            cases hrw : AV.isRows (.seq [x, y, z]) with
            | false =>
              refine ⟨false, rfl, iteT ?_⟩
              rw [← AV.noTable hrw]
              exact q _ s12
            | true =>
              refine ⟨true, rfl, iteF ?_⟩
              obtain ⟨a1, b1, c1, d1, e1, f1, g1, h1, i1, ex⟩ := AV.rows hrw
              have nums := ok.nums _ _ _ _ _ _ _ _ _ ex
              cases ex
              obtain ⟨p1, q1, r1, rfl, m1, m2, m3⟩ := rows_at hq
              refine ⟨_, rfl, a, p1, q1, r1, a1, b1, c1, d1, e1, f1, g1, h1, i1, rfl, .inl (s12.seq hs), m1.same s12, m2.same s12, m3.same s12, fun n hn => Nat.lt_trans (nums n hn) (by decide), fun H3 s3 => ?_⟩
              refine ⟨rfl, ?_⟩
              have ed : (!decide (V.int (detL a1 b1 c1 d1 e1 f1 g1 h1 i1) = V.int 0)) = decide (detL a1 b1 c1 d1 e1 f1 g1 h1 i1 ≠ 0) := by
                by_cases z : detL a1 b1 c1 d1 e1 f1 g1 h1 i1 = 0 <;> simp [z]
              rw [ed]
              exact q _ (s12.trans s3)
        · rw [show (!decide (V.int ((vs.length : Nat) : Int) = V.int 3)) = true from by rw [decide_eq_false (fun z => h3 (by have := V.int.inj z; omega))]; rfl]
          refine iteT ?_
          have nt : AV.isTable (.seq xs) = false := AV.noTable (by simp [AV.isRows, h3])
          rw [← nt]
          exact q _ s1
      · refine ⟨_, pss_cons (ps_if (PW.pt (pw_or (pt_not (pt_val (pdf D1 G1 r1 (pa_cons (pv 0) pa_nil)))) (pw_or (pt_cmpR op_ne (pe_callB call_len_seq (by rfl) B.len PySem.boot_len (pa_cons (pv 0) pa_nil)) pe_int (nomark _)) (pw_or1 (pt_not (pt_val (pe_callB (cr_all rfl) (by rfl) B.all boot_all (pa_cons (pe_lc (own := [("row", 1)]) (g := gName 1) (tt := tYes) rfl sc_33.nd (pi_tup (pv 0)) (blkOk_by (N := ["value", "row"]) (sc := defScope s_is_three_by_three) (by decide +kernel)) (fun _ _ _ _ _ => pg_name (i := 1) sc_33.nd rfl (Or.inl rfl))
          (fun _ _ _ _ _ => pts_nil) (fun _ _ _ _ _ => pdf D2 G2 hr (pa_cons (pv 1) pa_nil))) pa_nil)))))))) (pss_one (ps_ret pe_bl)) pss_nil)
          (pss_one (ps_ret (pe_cmpR op_ne (pdf D3 G3 hr (pa_cons (pv 0) pa_nil)) pe_int (nomark _)))), ?_⟩
        refine ⟨_, rfl, _, _, rfl, .seq (.inr hs) hq, fun H1 s1 => ⟨true, rfl, iteF ?_⟩⟩
        refine ⟨_, rfl, a, _, rfl, .inr (same_t s1 hs), rfl, _, rfl, ?_⟩
        by_cases h3 : xs.length = 3
        · rw [show (!decide (V.int ((vs.length : Nat) : Int) = V.int 3)) = false from by rw [lv, h3]; rfl]
          refine iteF ?_
          obtain ⟨x, y, z, rfl⟩ : ∃ x y z, xs = [x, y, z] := by
            match xs, h3 with
            | [x, y, z], _ => exact ⟨x, y, z, rfl⟩
          let FX : Nat → V := fun i => V.bl (match i with | 0 => x.isThree | 1 => y.isThree | _ => z.isThree)
          refine ⟨_, rfl, a, rfl, ⟨_, same_t s1 hs⟩, fun D hD => lcIT FX (same_t s1 hs) (by rw [lv]; show 3 < sizeLine; decide) hD (fun i v hv H2 s2 G N gk => ?_) fun H2 s2 h2 => ?_⟩
          · obtain ⟨u, hu, av⟩ := AVals.at hq hv
            have mu := List.mem_of_getElem? hu
            refine ⟨rfl, yes_ite ?_⟩
            refine ⟨_, rfl, v, u, rfl, av.same (s1.trans s2), fun ys e => ok.rows _ rfl u mu ys e, fun H3 s3 => ?_⟩
            have eF : FX i = V.bl u.isThree := by
              match i, hu with
              | 0, hu =>
                cases hu
                rfl
              | 1, hu =>
                cases hu
                rfl
              | 2, hu =>
                cases hu
                rfl
            rw [← eF]
            exact gk _ s3
          · have e2 : vs.length = 3 := by rw [lv]; rfl
            rw [e2] at h2
            refine ⟨D, [x.isThree, y.isThree, z.isThree], rfl, SqL.mk h2, ?_⟩
            have ea : [x.isThree, y.isThree, z.isThree].all id = AV.isRows (.seq [x, y, z]) := by simp [AV.isRows]
            rw [ea]
            have s12 := s1.trans s2
            cases hrw : AV.isRows (.seq [x, y, z]) with
            | false =>
              refine ⟨false, rfl, iteT ?_⟩
              rw [← AV.noTable hrw]
              exact q _ s12
            | true =>
              refine ⟨true, rfl, iteF ?_⟩
              obtain ⟨a1, b1, c1, d1, e1, f1, g1, h1, i1, ex⟩ := AV.rows hrw
              have nums := ok.nums _ _ _ _ _ _ _ _ _ ex
              cases ex
              obtain ⟨p1, q1, r1, rfl, m1, m2, m3⟩ := rows_at hq
              refine ⟨_, rfl, a, p1, q1, r1, a1, b1, c1, d1, e1, f1, g1, h1, i1, rfl, .inr (same_t s12 hs), m1.same s12, m2.same s12, m3.same s12, fun n hn => Nat.lt_trans (nums n hn) (by decide), fun H3 s3 => ?_⟩
              refine ⟨rfl, ?_⟩
              have ed : (!decide (V.int (detL a1 b1 c1 d1 e1 f1 g1 h1 i1) = V.int 0)) = decide (detL a1 b1 c1 d1 e1 f1 g1 h1 i1 ≠ 0) := by
                by_cases z : detL a1 b1 c1 d1 e1 f1 g1 h1 i1 = 0 <;> simp [z]
              rw [ed]
              exact q _ (s12.trans s3)
        · rw [show (!decide (V.int ((vs.length : Nat) : Int) = V.int 3)) = true from by rw [decide_eq_false (fun z => h3 (by have := V.int.inj z; omega))]; rfl]
          refine iteT ?_
          have nt : AV.isTable (.seq xs) = false := AV.noTable (by simp [AV.isRows, h3])
          rw [← nt]
          exact q _ s1
theorem sc_table : FnScope ["value"] ["value"] (defScope s_is_table) := ⟨rfl, rfl, rfl, by decide +kernel, rfl, by decide +kernel, by decide +kernel⟩
theorem ok_tableA {f f1 : Addr} {fd fd1 : FuncData} (F : Fun K "is_table" "is_table" s_is_table f fd) (D1 : Df K mg "is_three_by_three" s_is_three_by_three ["value"] f1 fd1) (G1 : FnOk P w K mg base CX0 3 f1 fd1 ["value"] (sp_tableA K)) : FnOk P w K mg base CX0 4 f fd ["value"] (sp_tableA K) := by
  refine F.ok sc_table (fun vs H Q E h => ?_) (fun cdv A outer s H vs Q E hr h => ?_)
  · obtain ⟨v, x, rfl, _⟩ := h
    rfl
  · obtain ⟨v, x, rfl, hv, ok, q⟩ := h
    refine ⟨_, pss_one (ps_ret (pdf D1 G1 hr (pa_cons (pv 0) pa_nil))), ?_⟩
    exact ⟨_, rfl, v, x, rfl, hv, ok, q⟩
end
end G0

namespace G0
open PySem PySem.Spec PyProof.Rows L2
abbrev s_lsum : Stmt := top 29
abbrev s_lcross : Stmt := top 30
abbrev s_lwhole : Stmt := top 31
abbrev s_lis_point : Stmt := top 35
abbrev s_lis_table : Stmt := top 36
section
variable {P : Program} {w : World} {K : PySem.W.Frag} {mg : Str → Option Value} {base : Heap}
theorem sc_lip : FnScope ["_law_value", "_law_number"] ["_law_value"] (defScope s_lis_point) := ⟨rfl, rfl, rfl, by decide +kernel, rfl, by decide +kernel, by decide +kernel⟩
theorem isiK {X : Cx} {K : PySem.W.Frag} (h : X.K = K) : CallR X (.builtin "isinstance") (rIsi K) := by
  subst h
  exact call_isi
def tIntTest (K : PySem.W.Frag) : TE := tAndV (tCB (rIsi K) (tCons (tVar 1) (tCons (tC (.ty "int")) tNil))) (tNotV (tCB (rIsi K) (tCons (tVar 1) (tCons (tC (.ty "bool")) tNil))))
theorem int_test {H : Hp} {a v : V} {x : AV} {Q : VK} (hv : AVal K H v x) (q : Q (.bl x.isInt) H) : tIntTest K [some a, some v] H Q := by
  cases hv with
  | int n =>
    refine ⟨_, rfl, _, _, _, _, true, rfl, .ty "int", .base (.int n), kit_ii, true, rfl, iteT ?_⟩
    exact ⟨_, rfl, _, _, _, _, false, rfl, .ty "bool", .base (.int n), kit_ib, false, rfl, q⟩
  | @other _ t i b ty k1 k2 no k3 k4 =>
    refine ⟨_, rfl, _, _, _, _, i, rfl, .ty "int", ty, k1, i, rfl, ?_⟩
    cases i with
    | false => exact iteF q
    | true =>
      refine iteT ?_
      cases b with
      | true => exact ⟨_, rfl, _, _, _, _, true, rfl, .ty "bool", ty, k2, true, rfl, q⟩
      | false => cases no
  | seq h hs =>
    rcases h with h | h
    · exact ⟨_, rfl, _, _, _, _, false, rfl, .ty "int", ty_l h, kit_li, false, rfl, iteF q⟩
    · exact ⟨_, rfl, _, _, _, _, false, rfl, .ty "int", ty_t h, kit_ti, false, rfl, iteF q⟩
theorem ok_lis_point {f : Addr} {fd : FuncData} (F : Fun K "_law_is_point" "_law_is_point" s_lis_point f fd) (B : Blt mg) : FnOk P w K mg base CX0 1 f fd ["_law_value"] (sp_pointA K) := by
  refine F.ok sc_lip (fun vs H Q E h => ?_) (fun cdv A outer s H vs Q E hr h => ?_)
  · obtain ⟨v, x, rfl, _⟩ := h
    rfl
  · obtain ⟨v, x, rfl, hv, sz, q⟩ := h
    cases hv with
    | int n =>
      refine ⟨_, pss_cons (ps_if (PW.pt (pw_or (pt_not (pt_val (pe_callB call_isiT (by rfl) B.isinstance boot_isi (pa_cons (pv 0) (pa_cons (pe_tup (pa_cons (pty B.list boot_tlist) (pa_cons (pty B.tuple boot_ttuple) pa_nil))) pa_nil))))) (pw_or1 (pt_cmpR op_ne (pe_callB call_len_seq (by rfl) B.len PySem.boot_len (pa_cons (pv 0) pa_nil)) pe_int (nomark _))))) (pss_one (ps_ret pe_bl)) pss_nil)
        (pss_cons (ps_if (pt_not (pt_val (pe_callB (cr_all rfl) (by rfl) B.all boot_all (pa_cons (pe_lc (own := [("_law_number", 1)]) (g := gName 1) (tt := tYes) rfl sc_lip.nd (pi_list (pv 0)) (blkOk_by (N := ["_law_value", "_law_number"]) (sc := defScope s_lis_point) (by decide +kernel)) (fun _ _ _ _ _ => pg_name (i := 1) sc_lip.nd rfl (Or.inl rfl))
            (fun _ _ _ _ _ => pts_nil) (fun _ _ _ _ _ => pe_and (pe_callB (isiK (K := K) rfl) (by rfl) B.isinstance boot_isi (pa_cons (pv 1) (pa_cons (pty B.int boot_tint) pa_nil))) (pe_one (pe_not (pe_callB (isiK (K := K) rfl) (by rfl) B.isinstance boot_isi (pa_cons (pv 1) (pa_cons (pty B.bool boot_tbool) pa_nil))))))) pa_nil)))) (pss_one (ps_ret pe_bl)) pss_nil)
        (pss_one (ps_ret (pe_callB (cr_any rfl) (by rfl) B.any boot_any (pa_cons (pe_lc (own := [("_law_number", 1)]) (g := gName 1) (tt := tYes) rfl sc_lip.nd (pi_list (pv 0)) (blkOk_by (N := ["_law_value", "_law_number"]) (sc := defScope s_lis_point) (by decide +kernel)) (fun _ _ _ _ _ => pg_name (i := 1) sc_lip.nd rfl (Or.inl rfl))
            (fun _ _ _ _ _ => pts_nil) (fun _ _ _ _ _ => pe_cmpR op_ne (pv 1) pe_int (nomark _))) pa_nil))))), ?_⟩
      refine ⟨_, rfl, by show 2 ≤ sizeLine; decide, fun p hp => ?_⟩
      exact ⟨_, p, _, _, _, false, rfl, upd_same, .cons (.ty "list") (.cons (.ty "tuple") .nil), .base (.int n), kitAny_cons (r := false) kit_il (fun _ => kitAny_cons kit_it (fun _ => rfl) (fun z => nomatch z)) (fun z => nomatch z), ⟨false, rfl, iteT (q _ (same_new hp))⟩⟩
    | other ty k1 k2 no k3 k4 =>
      refine ⟨_, pss_cons (ps_if (PW.pt (pw_or (pt_not (pt_val (pe_callB call_isiT (by rfl) B.isinstance boot_isi (pa_cons (pv 0) (pa_cons (pe_tup (pa_cons (pty B.list boot_tlist) (pa_cons (pty B.tuple boot_ttuple) pa_nil))) pa_nil))))) (pw_or1 (pt_cmpR op_ne (pe_callB call_len_seq (by rfl) B.len PySem.boot_len (pa_cons (pv 0) pa_nil)) pe_int (nomark _))))) (pss_one (ps_ret pe_bl)) pss_nil)
        (pss_cons (ps_if (pt_not (pt_val (pe_callB (cr_all rfl) (by rfl) B.all boot_all (pa_cons (pe_lc (own := [("_law_number", 1)]) (g := gName 1) (tt := tYes) rfl sc_lip.nd (pi_list (pv 0)) (blkOk_by (N := ["_law_value", "_law_number"]) (sc := defScope s_lis_point) (by decide +kernel)) (fun _ _ _ _ _ => pg_name (i := 1) sc_lip.nd rfl (Or.inl rfl))
            (fun _ _ _ _ _ => pts_nil) (fun _ _ _ _ _ => pe_and (pe_callB (isiK (K := K) rfl) (by rfl) B.isinstance boot_isi (pa_cons (pv 1) (pa_cons (pty B.int boot_tint) pa_nil))) (pe_one (pe_not (pe_callB (isiK (K := K) rfl) (by rfl) B.isinstance boot_isi (pa_cons (pv 1) (pa_cons (pty B.bool boot_tbool) pa_nil))))))) pa_nil)))) (pss_one (ps_ret pe_bl)) pss_nil)
        (pss_one (ps_ret (pe_callB (cr_any rfl) (by rfl) B.any boot_any (pa_cons (pe_lc (own := [("_law_number", 1)]) (g := gName 1) (tt := tYes) rfl sc_lip.nd (pi_list (pv 0)) (blkOk_by (N := ["_law_value", "_law_number"]) (sc := defScope s_lis_point) (by decide +kernel)) (fun _ _ _ _ _ => pg_name (i := 1) sc_lip.nd rfl (Or.inl rfl))
            (fun _ _ _ _ _ => pts_nil) (fun _ _ _ _ _ => pe_cmpR op_ne (pv 1) pe_int (nomark _))) pa_nil))))), ?_⟩
      refine ⟨_, rfl, by show 2 ≤ sizeLine; decide, fun p hp => ?_⟩
      exact ⟨_, p, _, _, _, false, rfl, upd_same, .cons (.ty "list") (.cons (.ty "tuple") .nil), tyx_same (same_new hp) ty, kitAny_cons (r := false) k3 (fun _ => kitAny_cons k4 (fun _ => rfl) (fun z => nomatch z)) (fun z => nomatch z), ⟨false, rfl, iteT (q _ (same_new hp))⟩⟩
    | @seq a vs xs hs hq =>
      have lv := AVals.len hq
      have yes3 : xs.length = 3 → AV.isThree (.seq xs) = xs.all AV.isInt := fun z => by simp [AV.isThree, z]
      have turn : ∀ x, x ∈ vs → ∀ H1 : Hp, Same H H1 → Turn1 (gName 1) tYes (tIntTest K) [1] [some (.ref a), none] (fun v => some (.bl (isIntV v))) x H1 := by
        intro x hx H1 s1 G N h1 h2
        obtain ⟨i, hi⟩ := List.getElem?_of_mem hx
        obtain ⟨y, _, hy⟩ := AVals.at hq hi
        have h2' : G (.bl y.isInt) H1 := h2 _ (by show some (V.bl (isIntV x)) = _; rw [hy.isInt]) _ (Same.refl _)
        refine ⟨rfl, iteT (B := N H1) ?_⟩
        exact int_test (hy.same s1) h2'
      rcases hs with hs | hs
      · refine ⟨_, pss_cons (ps_if (PW.pt (pw_or (pt_not (pt_val (pe_callB call_isiT (by rfl) B.isinstance boot_isi (pa_cons (pv 0) (pa_cons (pe_tup (pa_cons (pty B.list boot_tlist) (pa_cons (pty B.tuple boot_ttuple) pa_nil))) pa_nil))))) (pw_or1 (pt_cmpR op_ne (pe_callB call_len_seq (by rfl) B.len PySem.boot_len (pa_cons (pv 0) pa_nil)) pe_int (nomark _))))) (pss_one (ps_ret pe_bl)) pss_nil)
          (pss_cons (ps_if (pt_not (pt_val (pe_callB (cr_all rfl) (by rfl) B.all boot_all (pa_cons (pe_lc (own := [("_law_number", 1)]) (g := gName 1) (tt := tYes) rfl sc_lip.nd (pi_list (pv 0)) (blkOk_by (N := ["_law_value", "_law_number"]) (sc := defScope s_lis_point) (by decide +kernel)) (fun _ _ _ _ _ => pg_name (i := 1) sc_lip.nd rfl (Or.inl rfl))
              (fun _ _ _ _ _ => pts_nil) (fun _ _ _ _ _ => pe_and (pe_callB (isiK (K := K) rfl) (by rfl) B.isinstance boot_isi (pa_cons (pv 1) (pa_cons (pty B.int boot_tint) pa_nil))) (pe_one (pe_not (pe_callB (isiK (K := K) rfl) (by rfl) B.isinstance boot_isi (pa_cons (pv 1) (pa_cons (pty B.bool boot_tbool) pa_nil))))))) pa_nil)))) (pss_one (ps_ret pe_bl)) pss_nil)
          (pss_one (ps_ret (pe_callB (cr_any rfl) (by rfl) B.any boot_any (pa_cons (pe_lc (own := [("_law_number", 1)]) (g := gName 1) (tt := tYes) rfl sc_lip.nd (pi_list (pv 0)) (blkOk_by (N := ["_law_value", "_law_number"]) (sc := defScope s_lis_point) (by decide +kernel)) (fun _ _ _ _ _ => pg_name (i := 1) sc_lip.nd rfl (Or.inl rfl))
              (fun _ _ _ _ _ => pts_nil) (fun _ _ _ _ _ => pe_cmpR op_ne (pv 1) pe_int (nomark _))) pa_nil))))), ?_⟩
        refine ⟨_, rfl, by show 2 ≤ sizeLine; decide, fun p hp => ?_⟩
        have s1 : Same H (upd H p (.tup [.ty "list", .ty "tuple"])) := same_new hp
        have hs1 := s1.seq hs
        refine ⟨_, p, _, _, _, true, rfl, upd_same, .cons (.ty "list") (.cons (.ty "tuple") .nil), ty_l hs1, kitAny_cons kit_ll (fun z => nomatch z) fun _ => rfl, ⟨true, rfl, iteF ?_⟩⟩
        revert s1 hs1
        generalize upd H p (.tup [.ty "list", .ty "tuple"]) = H1
        intro s1 hs1
        refine ⟨_, rfl, a, _, rfl, .inl hs1, rfl, _, rfl, ?_⟩
        by_cases h3 : xs.length = 3
        · rw [show (!decide (V.int ((vs.length : Nat) : Int) = V.int 3)) = false from by rw [lv, h3]; rfl]
          refine iteF ?_
          refine ⟨_, rfl, a, rfl, ⟨_, hs1⟩, fun D hD => lcL (fun v => some (.bl (isIntV v))) hs1 (by rw [lv, h3]; decide) hD (fun x hx H2 s2 => turn x hx H2 (s1.trans s2)) fun H2 s2 h2 => ?_⟩
          rw [fx_isInt] at h2
          refine ⟨D, vs.map isIntV, rfl, SqL.mk h2, ?_⟩
          rw [AVals.isInt hq, ← yes3 h3]
          have s12 := s1.trans s2
          cases hth : AV.isThree (.seq xs) with
          | false =>
            refine ⟨false, rfl, iteT ?_⟩
            rw [← AV.noPoint hth]
            exact q _ s12
          | true =>
            refine ⟨true, rfl, iteF ?_⟩
            obtain ⟨a1, b1, c1, ex⟩ := AV.three hth
            cases ex
            have ev := AVals.ints (ns := [a1, b1, c1]) hq
            subst ev
            have hs2 := s12.seq hs
            let FN : V → Option V := fun x => match x with | .int n => some (.bl (decide (n ≠ 0))) | _ => none
            refine ⟨_, rfl, a, rfl, ⟨_, hs2⟩, fun D2 hD2 => lcL FN hs2 (by show 3 < sizeLine; decide) hD2 (fun x hx H3 _ G N g1 g2 => ?_) fun H3 s3 h3' => ?_⟩
            · obtain ⟨n, hn, rfl⟩ := mem_int hx
              refine ⟨rfl, yes_ite ?_⟩
              refine ⟨_, rfl, rfl, g2 _ ?_ _ (Same.refl _)⟩
              show some (V.bl (decide (n ≠ 0))) = some (V.bl (!decide (V.int n = V.int 0)))
              by_cases h0 : n = 0 <;> simp [h0]
            · exact ⟨D2, [decide (a1 ≠ 0), decide (b1 ≠ 0), decide (c1 ≠ 0)], rfl, SqL.mk h3', q _ (s12.trans s3)⟩
        · rw [show (!decide (V.int ((vs.length : Nat) : Int) = V.int 3)) = true from by rw [decide_eq_false (fun z => h3 (by have := V.int.inj z; omega))]; rfl]
          refine iteT ?_
          have nt : AV.isPoint (.seq xs) = false := AV.noPoint (by simp [AV.isThree, h3])
          rw [← nt]
          exact q _ s1
      · refine ⟨_, pss_cons (ps_if (PW.pt (pw_or (pt_not (pt_val (pe_callB call_isiT (by rfl) B.isinstance boot_isi (pa_cons (pv 0) (pa_cons (pe_tup (pa_cons (pty B.list boot_tlist) (pa_cons (pty B.tuple boot_ttuple) pa_nil))) pa_nil))))) (pw_or1 (pt_cmpR op_ne (pe_callB call_len_seq (by rfl) B.len PySem.boot_len (pa_cons (pv 0) pa_nil)) pe_int (nomark _))))) (pss_one (ps_ret pe_bl)) pss_nil)
          (pss_cons (ps_if (pt_not (pt_val (pe_callB (cr_all rfl) (by rfl) B.all boot_all (pa_cons (pe_lc (own := [("_law_number", 1)]) (g := gName 1) (tt := tYes) rfl sc_lip.nd (pi_tup (pv 0)) (blkOk_by (N := ["_law_value", "_law_number"]) (sc := defScope s_lis_point) (by decide +kernel)) (fun _ _ _ _ _ => pg_name (i := 1) sc_lip.nd rfl (Or.inl rfl))
              (fun _ _ _ _ _ => pts_nil) (fun _ _ _ _ _ => pe_and (pe_callB (isiK (K := K) rfl) (by rfl) B.isinstance boot_isi (pa_cons (pv 1) (pa_cons (pty B.int boot_tint) pa_nil))) (pe_one (pe_not (pe_callB (isiK (K := K) rfl) (by rfl) B.isinstance boot_isi (pa_cons (pv 1) (pa_cons (pty B.bool boot_tbool) pa_nil))))))) pa_nil)))) (pss_one (ps_ret pe_bl)) pss_nil)
          (pss_one (ps_ret (pe_callB (cr_any rfl) (by rfl) B.any boot_any (pa_cons (pe_lc (own := [("_law_number", 1)]) (g := gName 1) (tt := tYes) rfl sc_lip.nd (pi_tup (pv 0)) (blkOk_by (N := ["_law_value", "_law_number"]) (sc := defScope s_lis_point) (by decide +kernel)) (fun _ _ _ _ _ => pg_name (i := 1) sc_lip.nd rfl (Or.inl rfl))
              (fun _ _ _ _ _ => pts_nil) (fun _ _ _ _ _ => pe_cmpR op_ne (pv 1) pe_int (nomark _))) pa_nil))))), ?_⟩
        refine ⟨_, rfl, by show 2 ≤ sizeLine; decide, fun p hp => ?_⟩
        have s1 : Same H (upd H p (.tup [.ty "list", .ty "tuple"])) := same_new hp
        have hs1 := same_t s1 hs
        refine ⟨_, p, _, _, _, true, rfl, upd_same, .cons (.ty "list") (.cons (.ty "tuple") .nil), ty_t hs1, kitAny_cons (r := true) kit_tl (fun _ => kitAny_cons kit_tt (fun z => nomatch z) fun _ => rfl) (fun z => nomatch z), ⟨true, rfl, iteF ?_⟩⟩
        revert s1 hs1
        generalize upd H p (.tup [.ty "list", .ty "tuple"]) = H1
        intro s1 hs1
        refine ⟨_, rfl, a, _, rfl, .inr hs1, rfl, _, rfl, ?_⟩
        by_cases h3 : xs.length = 3
        · rw [show (!decide (V.int ((vs.length : Nat) : Int) = V.int 3)) = false from by rw [lv, h3]; rfl]
          refine iteF ?_
          refine ⟨_, rfl, a, rfl, ⟨_, hs1⟩, fun D hD => lcT (fun v => some (.bl (isIntV v))) hs1 (by rw [lv, h3]; decide) hD (fun x hx H2 s2 => turn x hx H2 (s1.trans s2)) fun H2 s2 h2 => ?_⟩
          rw [fx_isInt] at h2
          refine ⟨D, vs.map isIntV, rfl, SqL.mk h2, ?_⟩
          rw [AVals.isInt hq, ← yes3 h3]
          have s12 := s1.trans s2
          cases hth : AV.isThree (.seq xs) with
          | false =>
            refine ⟨false, rfl, iteT ?_⟩
            rw [← AV.noPoint hth]
            exact q _ s12
          | true =>
            refine ⟨true, rfl, iteF ?_⟩
            obtain ⟨a1, b1, c1, ex⟩ := AV.three hth
            cases ex
            have ev := AVals.ints (ns := [a1, b1, c1]) hq
            subst ev
            have hs2 := same_t s12 hs
            let FN : V → Option V := fun x => match x with | .int n => some (.bl (decide (n ≠ 0))) | _ => none
            refine ⟨_, rfl, a, rfl, ⟨_, hs2⟩, fun D2 hD2 => lcT FN hs2 (by show 3 < sizeLine; decide) hD2 (fun x hx H3 _ G N g1 g2 => ?_) fun H3 s3 h3' => ?_⟩
            · obtain ⟨n, hn, rfl⟩ := mem_int hx
              refine ⟨rfl, yes_ite ?_⟩
              refine ⟨_, rfl, rfl, g2 _ ?_ _ (Same.refl _)⟩
              show some (V.bl (decide (n ≠ 0))) = some (V.bl (!decide (V.int n = V.int 0)))
              by_cases h0 : n = 0 <;> simp [h0]
            · exact ⟨D2, [decide (a1 ≠ 0), decide (b1 ≠ 0), decide (c1 ≠ 0)], rfl, SqL.mk h3', q _ (s12.trans s3)⟩
        · rw [show (!decide (V.int ((vs.length : Nat) : Int) = V.int 3)) = true from by rw [decide_eq_false (fun z => h3 (by have := V.int.inj z; omega))]; rfl]
          refine iteT ?_
          have nt : AV.isPoint (.seq xs) = false := AV.noPoint (by simp [AV.isThree, h3])
          rw [← nt]
          exact q _ s1
end
end G0

namespace G0
open PySem PySem.Spec PyProof.Rows L2
abbrev s_cross : Stmt := top 30
section
variable {P : Program} {w : World} {K : PySem.W.Frag} {mg : Str → Option Value} {base : Heap}
theorem sc_lsum : FnScope ["_law_one", "_law_other", "_law_near", "_law_far"] ["_law_one", "_law_other"] (defScope s_lsum) := ⟨rfl, rfl, rfl, by decide +kernel, rfl, by decide +kernel, by decide +kernel⟩
theorem ok_lsum {f : Addr} {fd : FuncData} (F : Fun K "_law_sum" "_law_sum" s_lsum f fd) (nZ : mg "zip" = none) (nS : mg "sum" = none) : FnOk P w K mg base CX0 1 f fd ["_law_one", "_law_other"] (sp_dot K) := by
  refine F.ok sc_lsum (fun vs H Q E h => ?_) (fun cdv A outer s H vs Q E hr h => ?_)
  · obtain ⟨p, q, ns, ms, rfl, _⟩ := h
    rfl
  · obtain ⟨p, q, ns, ms, rfl, h1, h2, hl, hn, hb, k⟩ := h
    obtain ⟨k1, h1⟩ := h1.kind
    obtain ⟨k2, h2⟩ := h2.kind
    refine ⟨_, pss_one (ps_ret (pe_callB (cr_sum rfl) (by rfl) nS boot_sum0 (pa_cons (pe_lc (own := [("_law_near", 2), ("_law_far", 3)]) (g := gTup K 2 (gCons (gName 2) (gCons (gName 3) gNil))) (tt := tYes) rfl sc_lsum.nd (pi_Z k1 k2 (by rfl) nZ (pa_cons (pv 0) (pa_cons (pv 1) pa_nil)))
      (blkOk_by (N := ["_law_one", "_law_other", "_law_near", "_law_far"]) (sc := defScope s_lsum) (by decide +kernel)) (fun _ _ _ _ _ => pg_tup rfl (pgs_cons (pg_name (i := 2) sc_lsum.nd rfl (.inl rfl)) (pgs_cons (pg_name (i := 3) sc_lsum.nd rfl (.inl rfl)) pgs_nil))) (fun _ _ _ _ _ => pts_nil) (fun _ _ _ _ _ => pe_op op_mul (pv 2) (pv 3))) pa_nil))), ?_⟩
    have l1 : (ns.map V.int).length = ns.length := List.length_map _
    have l2 : (ms.map V.int).length = ns.length := by rw [List.length_map, hl]
    refine ⟨_, rfl, _, rfl, p, q, _, _, rfl, h1, h2, fun D hD => lc_it (walk_Z (b1 := k1) (b2 := k2) l1 l2) (fun i H1 => Same H H1 ∧ H1 D = some (.lst (((mulI ns ms).take i).map V.int))) ⟨same_new hD, upd_same⟩ (fun i H1 _ h => ⟨h1.same h.1, h2.same h.1⟩) ?_ ?_⟩
    · rintro i y H1 H2 hi ⟨s1, d1⟩ ⟨Tp, x, z, rfl, nT, rfl, ex, ez⟩
      have ex' : (ns.map V.int)[i]? = some x := ex
      have ez' : (ms.map V.int)[i]? = some z := ez
      rw [List.getElem?_map] at ex' ez'
      obtain ⟨n, en, rfl⟩ := Option.map_eq_some_iff.mp ex'
      obtain ⟨m, em, rfl⟩ := Option.map_eq_some_iff.mp ez'
      have bn := hb n (List.mem_of_getElem? en)
      have e64 : (2 : Nat) ^ 64 = 18446744073709551616 := rfl
      refine ⟨Tp, _, rfl, SqT.mk upd_same, rfl, _, _, rfl, _, _, rfl, rfl, rfl, yes_ite ?_⟩
      have nTD : Tp ≠ D := ne_of_none' d1 nT
      obtain ⟨t1, _⟩ := mulI_take ns ms i en em
      refine ⟨_, rfl, _, rfl, _, _, rfl, rfl, .inl ⟨by omega, by omega⟩, _, by rw [upd_ne nTD.symm]; exact d1, ?_, (s1.trans (same_new nT)).put hD, ?_⟩
      · rw [List.length_map, List.length_take, mulI_len hl, sizeLine_eq]
        omega
      · rw [upd_same, t1, List.map_append]
        rfl
    · rintro H1 ⟨s1, d1⟩
      refine ⟨D, mulI ns ms, rfl, SqL.mk ?_, ?_⟩
      · rw [← mulI_len hl, List.take_length] at d1
        exact d1
      · rw [mulI_sum]
        exact k _ s1
/-! _law_cross -/
def crossI (a b c d e f : Int) : List Int := [b * f - c * e, c * d - a * f, a * e - b * d]
def sp_cross (K : PySem.W.Frag) : Sp := fun vs H Q _ => ∃ (p q : Addr) (a b c d e f : Int), vs = [.ref p, .ref q] ∧ Sq K H p ([a, b, c].map V.int) ∧ Sq K H q ([d, e, f].map V.int) ∧ (∀ n ∈ [a, b, c], n.natAbs < 2 ^ 60) ∧ ∀ H' t, Same H H' → H t = none → H' t = some (.tup ((crossI a b c d e f).map V.int)) → Q (.ref t) H'
theorem rIx_sq {H : Hp} {p : Addr} {xs : List V} {i : Int} {v : V} {Q : VK} (h : Sq K H p xs) (e : atI xs i = some v) (q : Q v H) : rIx K (.ref p) (.int i) H Q := by
  rcases h with h | h
  · exact .inl ⟨p, xs, i, v, rfl, rfl, h, e, q⟩
  · exact .inr (.inl ⟨p, xs, i, v, rfl, rfl, h, e, q⟩)
theorem sc_cross : FnScope ["_law_one", "_law_other"] ["_law_one", "_law_other"] (defScope s_cross) := ⟨rfl, rfl, rfl, by decide +kernel, rfl, by decide +kernel, by decide +kernel⟩
theorem ok_cross {f : Addr} {fd : FuncData} (F : Fun K "_law_cross" "_law_cross" s_cross f fd) : FnOk P w K mg base CX0 1 f fd ["_law_one", "_law_other"] (sp_cross K) := by
  refine F.ok sc_cross (fun vs H Q E h => ?_) (fun cdv A outer s H vs Q E hr h => ?_)
  · obtain ⟨p, q, a, b, c, d, e, f, rfl, _⟩ := h
    rfl
  · obtain ⟨p, q, a, b, c, d, e, f, rfl, h1, h2, hb, k⟩ := h
    have ix : ∀ {X : Cx} {x y : Str} {p1 p2 p3 : Pos} {n : Int} {j : Nat} {c0 : Pos} (i : Nat) (_ : X.N[i]? = some x) (_ : Vis X.env.scope x) (_ : (x == ("__debug__" : Str)) = false) (_ : (x == ("__classdict__" : Str)) = false), True := fun _ _ _ _ _ => trivial
    refine ⟨_, pss_one (ps_ret (pe_tup (pa_cons (pe_op op_sub (pe_op op_mul (pe_ix ix_seq (pv 0) pe_int (fun _ _ => rfl)) (pe_ix ix_seq (pv 1) pe_int (fun _ _ => rfl))) (pe_op op_mul (pe_ix ix_seq (pv 0) pe_int (fun _ _ => rfl)) (pe_ix ix_seq (pv 1) pe_int (fun _ _ => rfl))))
      (pa_cons (pe_op op_sub (pe_op op_mul (pe_ix ix_seq (pv 0) pe_int (fun _ _ => rfl)) (pe_ix ix_seq (pv 1) pe_int (fun _ _ => rfl))) (pe_op op_mul (pe_ix ix_seq (pv 0) pe_int (fun _ _ => rfl)) (pe_ix ix_seq (pv 1) pe_int (fun _ _ => rfl))))
      (pa_cons (pe_op op_sub (pe_op op_mul (pe_ix ix_seq (pv 0) pe_int (fun _ _ => rfl)) (pe_ix ix_seq (pv 1) pe_int (fun _ _ => rfl))) (pe_op op_mul (pe_ix ix_seq (pv 0) pe_int (fun _ _ => rfl)) (pe_ix ix_seq (pv 1) pe_int (fun _ _ => rfl)))) pa_nil))))), ?_⟩
    have e60 : (2 : Nat) ^ 60 = 1152921504606846976 := rfl
    have ba := hb a (by simp)
    have bb := hb b (by simp)
    have bc := hb c (by simp)
    have ia : (-(2 ^ 64 : Int) < a ∧ a < 2 ^ 64) := ⟨by omega, by omega⟩
    have ib : (-(2 ^ 64 : Int) < b ∧ b < 2 ^ 64) := ⟨by omega, by omega⟩
    have ic : (-(2 ^ 64 : Int) < c ∧ c < 2 ^ 64) := ⟨by omega, by omega⟩
    refine ⟨_, rfl, rIx_sq h1 (v := .int b) rfl ⟨_, rfl, rIx_sq h2 (v := .int f) rfl ⟨_, _, rfl, rfl, .inl ib, ?_⟩⟩⟩
    refine ⟨_, rfl, rIx_sq h1 (v := .int c) rfl ⟨_, rfl, rIx_sq h2 (v := .int e) rfl ⟨_, _, rfl, rfl, .inl ic, ?_⟩⟩⟩
    refine ⟨_, _, rfl, rfl, ?_⟩
    refine ⟨_, rfl, rIx_sq h1 (v := .int c) rfl ⟨_, rfl, rIx_sq h2 (v := .int d) rfl ⟨_, _, rfl, rfl, .inl ic, ?_⟩⟩⟩
    refine ⟨_, rfl, rIx_sq h1 (v := .int a) rfl ⟨_, rfl, rIx_sq h2 (v := .int f) rfl ⟨_, _, rfl, rfl, .inl ia, ?_⟩⟩⟩
    refine ⟨_, _, rfl, rfl, ?_⟩
    refine ⟨_, rfl, rIx_sq h1 (v := .int a) rfl ⟨_, rfl, rIx_sq h2 (v := .int e) rfl ⟨_, _, rfl, rfl, .inl ia, ?_⟩⟩⟩
    refine ⟨_, rfl, rIx_sq h1 (v := .int b) rfl ⟨_, rfl, rIx_sq h2 (v := .int d) rfl ⟨_, _, rfl, rfl, .inl ib, ?_⟩⟩⟩
    exact ⟨_, _, rfl, rfl, by show 3 ≤ sizeLine; decide, fun t ht => k _ t (same_new ht) ht upd_same⟩
end
end G0

namespace G0
open PySem PySem.Spec PyProof.Rows L2
theorem det_same (a b c d e f g h i : Int) : dotI (crossI a b c d e f) [g, h, i] = detL a b c d e f g h i := by
  unfold detL crossI
  simp only [dotI]
  grind
section
variable {P : Program} {w : World} {K : PySem.W.Frag} {mg : Str → Option Value} {base : Heap}
def sp_whole (K : PySem.W.Frag) : Sp := fun vs H Q _ => ∃ (p q r : Addr) (a b c d e f g h i : Int), vs = [.ref p, .ref q, .ref r] ∧ Sq K H p ([a, b, c].map V.int) ∧ Sq K H q ([d, e, f].map V.int) ∧ Sq K H r ([g, h, i].map V.int) ∧ (∀ n ∈ [a, b, c, d, e, f], n.natAbs < 2 ^ 30) ∧
  ∀ H', Same H H' → Q (.int (detL a b c d e f g h i)) H'
theorem sc_whole : FnScope ["_law_one", "_law_other", "_law_third"] ["_law_one", "_law_other", "_law_third"] (defScope s_lwhole) := ⟨rfl, rfl, rfl, by decide +kernel, rfl, by decide +kernel, by decide +kernel⟩
theorem mul30 {m n : Int} (h1 : m.natAbs < 2 ^ 30) (h2 : n.natAbs < 2 ^ 30) : (m * n).natAbs < 2 ^ 60 := by
  rw [Int.natAbs_mul]
  have e : (2 : Nat) ^ 60 = 2 ^ 30 * 2 ^ 30 := rfl
  rw [e]
  exact Nat.mul_lt_mul'' h1 h2
theorem ok_whole {fn f1 f2 : Addr} {fd fd1 fd2 : FuncData} (F : Fun K "_law_whole" "_law_whole" s_lwhole fn fd) (D1 : Df K mg "_law_sum" s_lsum ["_law_one", "_law_other"] f1 fd1) (G1 : FnOk P w K mg base CX0 1 f1 fd1 ["_law_one", "_law_other"] (sp_dot K))
    (D2 : Df K mg "_law_cross" s_cross ["_law_one", "_law_other"] f2 fd2) (G2 : FnOk P w K mg base CX0 1 f2 fd2 ["_law_one", "_law_other"] (sp_cross K)) : FnOk P w K mg base CX0 2 fn fd ["_law_one", "_law_other", "_law_third"] (sp_whole K) := by
  refine F.ok sc_whole (fun vs H Q E h => ?_) (fun cdv A outer s H vs Q E hr h => ?_)
  · obtain ⟨p, q, r, a, b, c, d, e, f, g, h, i, rfl, _⟩ := h
    rfl
  · obtain ⟨p, q, r, a, b, c, d, e, f, g, h, i, rfl, h1, h2, h3, hb, k⟩ := h
    refine ⟨_, pss_one (ps_ret (pdf D1 G1 hr (pa_cons (pdf D2 G2 hr (pa_cons (pv 0) (pa_cons (pv 1) pa_nil))) (pa_cons (pv 2) pa_nil)))), ?_⟩
    have one : ∀ n ∈ [a, b, c], n.natAbs < 2 ^ 60 := fun n hn => Nat.lt_trans (hb n (by simp only [List.mem_cons, List.not_mem_nil, or_false] at hn ⊢; rcases hn with z | z | z <;> simp [z])) (by decide)
    have ba := hb a (by simp)
    have bb := hb b (by simp)
    have bc := hb c (by simp)
    have bd := hb d (by simp)
    have be := hb e (by simp)
    have bf := hb f (by simp)
    refine ⟨_, rfl, _, rfl, p, q, a, b, c, d, e, f, rfl, h1, h2, one, fun H1 t s1 n1 x1 => ?_⟩
    refine ⟨_, rfl, t, r, crossI a b c d e f, [g, h, i], rfl, .inr (SqT.mk x1), h3.same s1, rfl, by show 3 ≤ 1000; decide, fun n hn => ?_, fun H2 s2 => ?_⟩
    · have e60 : (2 : Nat) ^ 60 = 1152921504606846976 := rfl
      have e64 : (2 : Nat) ^ 64 = 18446744073709551616 := rfl
      simp only [crossI, List.mem_cons, List.not_mem_nil, or_false] at hn
      rcases hn with rfl | rfl | rfl
      · have := mul30 bb bf
        have := mul30 bc be
        omega
      · have := mul30 bc bd
        have := mul30 ba bf
        omega
      · have := mul30 ba be
        have := mul30 bb bd
        omega
    · rw [det_same]
      exact k _ (s1.trans s2)
end
end G0

namespace G0
open PySem PySem.Spec PyProof.Rows L2
section
variable {P : Program} {w : World} {K : PySem.W.Frag} {mg : Str → Option Value} {base : Heap}
theorem int_test3 {H : Hp} {a v : V} {b : Option V} {x : AV} {Q : VK} (hv : AVal K H v x) (q : Q (.bl x.isInt) H) : (tAndV (tCB (rIsi K) (tCons (tVar 2) (tCons (tC (.ty "int")) tNil))) (tNotV (tCB (rIsi K) (tCons (tVar 2) (tCons (tC (.ty "bool")) tNil))))) [some a, b, some v] H Q := by
  cases hv with
  | int n =>
    refine ⟨_, rfl, _, _, _, _, true, rfl, .ty "int", .base (.int n), kit_ii, true, rfl, iteT ?_⟩
    exact ⟨_, rfl, _, _, _, _, false, rfl, .ty "bool", .base (.int n), kit_ib, false, rfl, q⟩
  | @other _ t i b ty k1 k2 no k3 k4 =>
    refine ⟨_, rfl, _, _, _, _, i, rfl, .ty "int", ty, k1, i, rfl, ?_⟩
    cases i with
    | false => exact iteF q
    | true =>
      refine iteT ?_
      cases b with
      | true => exact ⟨_, rfl, _, _, _, _, true, rfl, .ty "bool", ty, k2, true, rfl, q⟩
      | false => cases no
  | seq h hs =>
    rcases h with h | h
    · exact ⟨_, rfl, _, _, _, _, false, rfl, .ty "int", ty_l h, kit_li, false, rfl, iteF q⟩
    · exact ⟨_, rfl, _, _, _, _, false, rfl, .ty "int", ty_t h, kit_ti, false, rfl, iteF q⟩
theorem sc_lit : FnScope ["_law_value", "_law_row", "_law_one"] ["_law_value"] (defScope s_lis_table) := ⟨rfl, rfl, rfl, by decide +kernel, rfl, by decide +kernel, by decide +kernel⟩
theorem ok_lis_table {f f1 : Addr} {fd fd1 : FuncData} (F : Fun K "_law_is_table" "_law_is_table" s_lis_table f fd) (B : Blt mg) (D1 : Df K mg "_law_whole" s_lwhole ["_law_one", "_law_other", "_law_third"] f1 fd1) (G1 : FnOk P w K mg base CX0 2 f1 fd1 ["_law_one", "_law_other", "_law_third"] (sp_whole K)) :
    FnOk P w K mg base CX0 3 f fd ["_law_value"] (sp_tableA K) := by
  refine F.ok sc_lit (fun vs H Q E h => ?_) (fun cdv A outer s H vs Q E hr h => ?_)
  · obtain ⟨v, x, rfl, _⟩ := h
    rfl
  · obtain ⟨v, x, rfl, hv, ok, q⟩ := h
    refine ⟨_, pss_cons (ps_if (PW.pt (pw_or (pt_not (pt_val (pe_callB call_isiT (by rfl) B.isinstance boot_isi (pa_cons (pv 0) (pa_cons (pe_tup (pa_cons (pty B.list boot_tlist) (pa_cons (pty B.tuple boot_ttuple) pa_nil))) pa_nil))))) (pw_or1 (pt_cmpR op_ne (pe_callB call_len_seq (by rfl) B.len PySem.boot_len (pa_cons (pv 0) pa_nil)) pe_int (nomark _))))) (pss_one (ps_ret pe_bl)) pss_nil)
      (pss_cons (ps_for PassesOwn.never rfl (pi_any (pv 0)) (pg_name (i := 1) sc_lit.nd rfl (Or.inl rfl))
        (pss_one (ps_if (PW.pt (pw_or (pt_not (pt_val (pe_callB call_isiT (by rfl) B.isinstance boot_isi (pa_cons (pv 1) (pa_cons (pe_tup (pa_cons (pty B.list boot_tlist) (pa_cons (pty B.tuple boot_ttuple) pa_nil))) pa_nil))))) (pw_or (pt_cmpR op_ne (pe_callB call_len_seq (by rfl) B.len PySem.boot_len (pa_cons (pv 1) pa_nil)) pe_int (nomark _))
          (pw_or1 (pt_not (pt_val (pe_callB (cr_all rfl) (by rfl) B.all boot_all (pa_cons (pe_lc (own := [("_law_one", 2)]) (g := gName 2) (tt := tYes) rfl sc_lit.nd (pi_any (pv 1)) (blkOk_by (N := ["_law_value", "_law_row", "_law_one"]) (sc := defScope s_lis_table) (by decide +kernel)) (fun _ _ _ _ _ => pg_name (i := 2) sc_lit.nd rfl (Or.inl rfl))
            (fun _ _ _ _ _ => pts_nil) (fun _ _ _ _ _ => pe_and (pe_callB (isiK (K := K) rfl) (by rfl) B.isinstance boot_isi (pa_cons (pv 2) (pa_cons (pty B.int boot_tint) pa_nil))) (pe_one (pe_not (pe_callB (isiK (K := K) rfl) (by rfl) B.isinstance boot_isi (pa_cons (pv 2) (pa_cons (pty B.bool boot_tbool) pa_nil))))))) pa_nil)))))))) (pss_one (ps_ret pe_bl)) pss_nil)))
      (pss_one (ps_ret (pe_cmpR op_ne (pdf D1 G1 hr (pa_cons (pe_ix ix_seq (pv 0) pe_int (fun _ _ => rfl)) (pa_cons (pe_ix ix_seq (pv 0) pe_int (fun _ _ => rfl)) (pa_cons (pe_ix ix_seq (pv 0) pe_int (fun _ _ => rfl)) pa_nil)))) pe_int (nomark _))))), ?_⟩
    cases hv with
    | int n =>
      refine ⟨_, rfl, by show 2 ≤ sizeLine; decide, fun p hp => ?_⟩
      exact ⟨_, p, _, _, _, false, rfl, upd_same, .cons (.ty "list") (.cons (.ty "tuple") .nil), .base (.int n), kitAny_cons (r := false) kit_il (fun _ => kitAny_cons kit_it (fun _ => rfl) (fun z => nomatch z)) (fun z => nomatch z), ⟨false, rfl, iteT (q _ (same_new hp))⟩⟩
    | other ty k1 k2 no k3 k4 =>
      refine ⟨_, rfl, by show 2 ≤ sizeLine; decide, fun p hp => ?_⟩
      exact ⟨_, p, _, _, _, false, rfl, upd_same, .cons (.ty "list") (.cons (.ty "tuple") .nil), tyx_same (same_new hp) ty, kitAny_cons (r := false) k3 (fun _ => kitAny_cons k4 (fun _ => rfl) (fun z => nomatch z)) (fun z => nomatch z), ⟨false, rfl, iteT (q _ (same_new hp))⟩⟩
    | @seq a vs xs hs hq =>
      have lv := AVals.len hq
      rcases hs with hs | hs
      · refine ⟨_, rfl, by show 2 ≤ sizeLine; decide, fun p hp => ?_⟩
        have s1 : Same H (upd H p (.tup [.ty "list", .ty "tuple"])) := same_new hp
        have hs1 := s1.seq hs
        refine ⟨_, p, _, _, _, true, rfl, upd_same, .cons (.ty "list") (.cons (.ty "tuple") .nil), ty_l hs1, kitAny_cons kit_ll (fun z => nomatch z) fun _ => rfl, ⟨true, rfl, iteF ?_⟩⟩
        revert s1 hs1
        generalize upd H p (.tup [.ty "list", .ty "tuple"]) = H1
        intro s1 hs1
        refine ⟨_, rfl, a, _, rfl, .inl hs1, rfl, _, rfl, ?_⟩
        by_cases h3 : xs.length = 3
        · rw [show (!decide (V.int ((vs.length : Nat) : Int) = V.int 3)) = false from by rw [lv, h3]; rfl]
          refine iteF ?_
          refine .inl ⟨_, rfl, a, rfl, ⟨_, hs1⟩, for_it (walk_list (K := K) (a := a) (xs := vs)) (fun i σ H2 => ∃ y1 y2, σ = [some (.ref a), y1, y2] ∧ Same H1 H2 ∧ ∀ u ∈ xs.take i, AV.isThree u = true) ⟨none, none, rfl, Same.refl _, fun u hu => by simp at hu⟩ ?_ ?_ ?_⟩
          · rintro i σ H2 _ ⟨y1, y2, rfl, s2, _⟩
            exact s2.seq hs1
          · rintro i v σ H2 H3 hi ⟨y1, y2, rfl, s2, al⟩ ⟨rfl, hv⟩
            obtain ⟨u, hu, hav⟩ := AVals.at hq hv
            have mu := List.mem_of_getElem? hu
            have av3 := hav.same (s1.trans s2)
            have bad : ∀ H6 : Hp, AV.isThree u = false → Same H3 H6 → Q (.bl false) H6 := fun H6 hu3 s6 => by
              have nr : AV.isRows (.seq xs) = false := by
                cases hr : AV.isRows (.seq xs) with
                | false => rfl
                | true =>
                  have hr' : (decide (xs.length = 3) && xs.all AV.isThree) = true := hr
                  rw [Bool.and_eq_true, List.all_eq_true] at hr'
                  rw [hr'.2 u mu] at hu3
                  cases hu3
              rw [← AV.noTable nr]
              exact q _ ((s1.trans s2).trans s6)
            have good : ∀ H6 : Hp, AV.isThree u = true → Same H3 H6 → ∃ z1 z2, [some (V.ref a), some v, y2] = [some (V.ref a), z1, z2] ∧ Same H1 H6 ∧ ∀ w ∈ xs.take (i + 1), AV.isThree w = true := fun H6 hu3 s6 => by
              refine ⟨_, _, rfl, s2.trans s6, fun w hw => ?_⟩
              rw [List.take_add_one, hu] at hw
              rcases List.mem_append.mp hw with hw | hw
              · exact al w hw
              · have e : w = u := by simpa using hw
                rw [e]
                exact hu3
            cases av3 with
            | int n =>
              refine ⟨_, rfl, by show 2 ≤ sizeLine; decide, fun p hp => ?_⟩
              exact ⟨_, p, _, _, _, false, rfl, upd_same, .cons (.ty "list") (.cons (.ty "tuple") .nil), .base (.int n), kitAny_cons (r := false) kit_il (fun _ => kitAny_cons kit_it (fun _ => rfl) (fun z => nomatch z)) (fun z => nomatch z), ⟨false, rfl, iteT (bad _ rfl (same_new hp))⟩⟩
            | other ty k1 k2 no k3 k4 =>
              refine ⟨_, rfl, by show 2 ≤ sizeLine; decide, fun p hp => ?_⟩
              exact ⟨_, p, _, _, _, false, rfl, upd_same, .cons (.ty "list") (.cons (.ty "tuple") .nil), tyx_same (same_new hp) ty, kitAny_cons (r := false) k3 (fun _ => kitAny_cons k4 (fun _ => rfl) (fun z => nomatch z)) (fun z => nomatch z), ⟨false, rfl, iteT (bad _ rfl (same_new hp))⟩⟩
            | @seq b ws ys hb hw =>
              rcases hb with hb | hb
              · refine ⟨_, rfl, by show 2 ≤ sizeLine; decide, fun p hp => ?_⟩
                have s4 : Same H3 (upd H3 p (.tup [.ty "list", .ty "tuple"])) := same_new hp
                have hb1 := s4.seq hb
                refine ⟨_, p, _, _, _, true, rfl, upd_same, .cons (.ty "list") (.cons (.ty "tuple") .nil), ty_l hb1, kitAny_cons kit_ll (fun z => nomatch z) fun _ => rfl, ⟨true, rfl, iteF ?_⟩⟩
                revert s4 hb1
                generalize upd H3 p (.tup [.ty "list", .ty "tuple"]) = H4
                intro s4 hb1
                refine ⟨_, rfl, b, _, rfl, .inl hb1, rfl, _, rfl, ?_⟩
                have lw := AVals.len hw
                by_cases r3 : ys.length = 3
                · rw [show (!decide (V.int ((ws.length : Nat) : Int) = V.int 3)) = false from by rw [lw, r3]; rfl]
                  refine iteF ?_
                  have yes3 : AV.isThree (.seq ys) = ys.all AV.isInt := by simp [AV.isThree, r3]
                  refine .inl ⟨_, rfl, b, rfl, ⟨_, hb1⟩, fun D hD => lcL (fun v => some (.bl (isIntV v))) hb1 (by rw [lw, r3]; decide) hD (fun x hx H5 s5 G N h1 h2 => ?_) fun H5 s5 h5 => ?_⟩
                  · obtain ⟨k, hk⟩ := List.getElem?_of_mem hx
                    obtain ⟨y, _, hy⟩ := AVals.at hw hk
                    have h2' : G (.bl y.isInt) H5 := h2 _ (by show some (V.bl (isIntV x)) = _; rw [hy.isInt]) _ (Same.refl _)
                    refine ⟨rfl, yes_ite ?_⟩
                    exact int_test3 (hy.same (s4.trans s5)) h2'
                  · rw [fx_isInt] at h5
                    refine ⟨D, ws.map isIntV, rfl, SqL.mk h5, ?_⟩
                    rw [AVals.isInt hw, ← yes3]
                    cases hth : AV.isThree (.seq ys) with
                    | false => exact ⟨false, rfl, iteT (bad _ hth (s4.trans s5))⟩
                    | true => exact ⟨true, rfl, iteF (good _ hth (s4.trans s5))⟩
                · rw [show (!decide (V.int ((ws.length : Nat) : Int) = V.int 3)) = true from by rw [decide_eq_false (fun z => r3 (by have := V.int.inj z; omega))]; rfl]
                  exact iteT (bad _ (by simp [AV.isThree, r3]) s4)
              · refine ⟨_, rfl, by show 2 ≤ sizeLine; decide, fun p hp => ?_⟩
                have s4 : Same H3 (upd H3 p (.tup [.ty "list", .ty "tuple"])) := same_new hp
                have hb1 := same_t s4 hb
                refine ⟨_, p, _, _, _, true, rfl, upd_same, .cons (.ty "list") (.cons (.ty "tuple") .nil), ty_t hb1, kitAny_cons (r := true) kit_tl (fun _ => kitAny_cons kit_tt (fun z => nomatch z) fun _ => rfl) (fun z => nomatch z), ⟨true, rfl, iteF ?_⟩⟩
                revert s4 hb1
                generalize upd H3 p (.tup [.ty "list", .ty "tuple"]) = H4
                intro s4 hb1
                refine ⟨_, rfl, b, _, rfl, .inr hb1, rfl, _, rfl, ?_⟩
                have lw := AVals.len hw
                by_cases r3 : ys.length = 3
                · rw [show (!decide (V.int ((ws.length : Nat) : Int) = V.int 3)) = false from by rw [lw, r3]; rfl]
                  refine iteF ?_
                  have yes3 : AV.isThree (.seq ys) = ys.all AV.isInt := by simp [AV.isThree, r3]
                  refine .inr ⟨_, rfl, b, rfl, ⟨_, hb1⟩, fun D hD => lcT (fun v => some (.bl (isIntV v))) hb1 (by rw [lw, r3]; decide) hD (fun x hx H5 s5 G N h1 h2 => ?_) fun H5 s5 h5 => ?_⟩
                  · obtain ⟨k, hk⟩ := List.getElem?_of_mem hx
                    obtain ⟨y, _, hy⟩ := AVals.at hw hk
                    have h2' : G (.bl y.isInt) H5 := h2 _ (by show some (V.bl (isIntV x)) = _; rw [hy.isInt]) _ (Same.refl _)
                    refine ⟨rfl, yes_ite ?_⟩
                    exact int_test3 (hy.same (s4.trans s5)) h2'
                  · rw [fx_isInt] at h5
                    refine ⟨D, ws.map isIntV, rfl, SqL.mk h5, ?_⟩
                    rw [AVals.isInt hw, ← yes3]
                    cases hth : AV.isThree (.seq ys) with
                    | false => exact ⟨false, rfl, iteT (bad _ hth (s4.trans s5))⟩
                    | true => exact ⟨true, rfl, iteF (good _ hth (s4.trans s5))⟩
                · rw [show (!decide (V.int ((ws.length : Nat) : Int) = V.int 3)) = true from by rw [decide_eq_false (fun z => r3 (by have := V.int.inj z; omega))]; rfl]
                  exact iteT (bad _ (by simp [AV.isThree, r3]) s4)
          · rintro σ H2 ⟨y1, y2, rfl, s2, al⟩
            have s12 := s1.trans s2
            rw [lv, List.take_length] at al
            have hrw : AV.isRows (.seq xs) = true := by
              show (decide (xs.length = 3) && xs.all AV.isThree) = true
              rw [Bool.and_eq_true, List.all_eq_true]
              exact ⟨decide_eq_true h3, al⟩
            obtain ⟨a1, b1, c1, d1, e1, f1, g1, h1, i1, ex⟩ := AV.rows hrw
            have nums := ok.nums _ _ _ _ _ _ _ _ _ ex
            cases ex
            obtain ⟨p1, q1, r1, rfl, m1, m2, m3⟩ := rows_at hq
            have hs2 := s2.seq hs1
            refine ⟨_, rfl, .inl ⟨a, _, 0, .ref p1, rfl, rfl, hs2, rfl, ?_⟩⟩
            refine ⟨_, rfl, .inl ⟨a, _, 1, .ref q1, rfl, rfl, hs2, rfl, ?_⟩⟩
            refine ⟨_, rfl, .inl ⟨a, _, 2, .ref r1, rfl, rfl, hs2, rfl, ?_⟩⟩
            refine ⟨p1, q1, r1, a1, b1, c1, d1, e1, f1, g1, h1, i1, rfl, m1.same s12, m2.same s12, m3.same s12, nums, fun H3 s3 => ⟨rfl, ?_⟩⟩
            have ed : (!decide (V.int (detL a1 b1 c1 d1 e1 f1 g1 h1 i1) = V.int 0)) = decide (detL a1 b1 c1 d1 e1 f1 g1 h1 i1 ≠ 0) := by
              by_cases z : detL a1 b1 c1 d1 e1 f1 g1 h1 i1 = 0 <;> simp [z]
            rw [ed]
            exact q _ (s12.trans s3)
        · rw [show (!decide (V.int ((vs.length : Nat) : Int) = V.int 3)) = true from by rw [decide_eq_false (fun z => h3 (by have := V.int.inj z; omega))]; rfl]
          refine iteT ?_
          have nt : AV.isTable (.seq xs) = false := AV.noTable (by simp [AV.isRows, h3])
          rw [← nt]
          exact q _ s1
      · refine ⟨_, rfl, by show 2 ≤ sizeLine; decide, fun p hp => ?_⟩
        have s1 : Same H (upd H p (.tup [.ty "list", .ty "tuple"])) := same_new hp
        have hs1 := same_t s1 hs
        refine ⟨_, p, _, _, _, true, rfl, upd_same, .cons (.ty "list") (.cons (.ty "tuple") .nil), ty_t hs1, kitAny_cons (r := true) kit_tl (fun _ => kitAny_cons kit_tt (fun z => nomatch z) fun _ => rfl) (fun z => nomatch z), ⟨true, rfl, iteF ?_⟩⟩
        revert s1 hs1
        generalize upd H p (.tup [.ty "list", .ty "tuple"]) = H1
        intro s1 hs1
        refine ⟨_, rfl, a, _, rfl, .inr hs1, rfl, _, rfl, ?_⟩
        by_cases h3 : xs.length = 3
        · rw [show (!decide (V.int ((vs.length : Nat) : Int) = V.int 3)) = false from by rw [lv, h3]; rfl]
          refine iteF ?_
          refine .inr ⟨_, rfl, a, rfl, ⟨_, hs1⟩, for_it (walk_tup (K := K) (a := a) (xs := vs)) (fun i σ H2 => ∃ y1 y2, σ = [some (.ref a), y1, y2] ∧ Same H1 H2 ∧ ∀ u ∈ xs.take i, AV.isThree u = true) ⟨none, none, rfl, Same.refl _, fun u hu => by simp at hu⟩ ?_ ?_ ?_⟩
          · rintro i σ H2 _ ⟨y1, y2, rfl, s2, _⟩
            exact same_t s2 hs1
          · rintro i v σ H2 H3 hi ⟨y1, y2, rfl, s2, al⟩ ⟨rfl, hv⟩
            obtain ⟨u, hu, hav⟩ := AVals.at hq hv
            have mu := List.mem_of_getElem? hu
            have av3 := hav.same (s1.trans s2)
            have bad : ∀ H6 : Hp, AV.isThree u = false → Same H3 H6 → Q (.bl false) H6 := fun H6 hu3 s6 => by
              have nr : AV.isRows (.seq xs) = false := by
                cases hr : AV.isRows (.seq xs) with
                | false => rfl
                | true =>
                  have hr' : (decide (xs.length = 3) && xs.all AV.isThree) = true := hr
                  rw [Bool.and_eq_true, List.all_eq_true] at hr'
                  rw [hr'.2 u mu] at hu3
                  cases hu3
              rw [← AV.noTable nr]
              exact q _ ((s1.trans s2).trans s6)
            have good : ∀ H6 : Hp, AV.isThree u = true → Same H3 H6 → ∃ z1 z2, [some (V.ref a), some v, y2] = [some (V.ref a), z1, z2] ∧ Same H1 H6 ∧ ∀ w ∈ xs.take (i + 1), AV.isThree w = true := fun H6 hu3 s6 => by
              refine ⟨_, _, rfl, s2.trans s6, fun w hw => ?_⟩
              rw [List.take_add_one, hu] at hw
              rcases List.mem_append.mp hw with hw | hw
              · exact al w hw
              · have e : w = u := by simpa using hw
                rw [e]
                exact hu3
            cases av3 with
            | int n =>
              refine ⟨_, rfl, by show 2 ≤ sizeLine; decide, fun p hp => ?_⟩
              exact ⟨_, p, _, _, _, false, rfl, upd_same, .cons (.ty "list") (.cons (.ty "tuple") .nil), .base (.int n), kitAny_cons (r := false) kit_il (fun _ => kitAny_cons kit_it (fun _ => rfl) (fun z => nomatch z)) (fun z => nomatch z), ⟨false, rfl, iteT (bad _ rfl (same_new hp))⟩⟩
            | other ty k1 k2 no k3 k4 =>
              refine ⟨_, rfl, by show 2 ≤ sizeLine; decide, fun p hp => ?_⟩
              exact ⟨_, p, _, _, _, false, rfl, upd_same, .cons (.ty "list") (.cons (.ty "tuple") .nil), tyx_same (same_new hp) ty, kitAny_cons (r := false) k3 (fun _ => kitAny_cons k4 (fun _ => rfl) (fun z => nomatch z)) (fun z => nomatch z), ⟨false, rfl, iteT (bad _ rfl (same_new hp))⟩⟩
            | @seq b ws ys hb hw =>
              rcases hb with hb | hb
              · refine ⟨_, rfl, by show 2 ≤ sizeLine; decide, fun p hp => ?_⟩
                have s4 : Same H3 (upd H3 p (.tup [.ty "list", .ty "tuple"])) := same_new hp
                have hb1 := s4.seq hb
                refine ⟨_, p, _, _, _, true, rfl, upd_same, .cons (.ty "list") (.cons (.ty "tuple") .nil), ty_l hb1, kitAny_cons kit_ll (fun z => nomatch z) fun _ => rfl, ⟨true, rfl, iteF ?_⟩⟩
                revert s4 hb1
                generalize upd H3 p (.tup [.ty "list", .ty "tuple"]) = H4
                intro s4 hb1
                refine ⟨_, rfl, b, _, rfl, .inl hb1, rfl, _, rfl, ?_⟩
                have lw := AVals.len hw
                by_cases r3 : ys.length = 3
                · rw [show (!decide (V.int ((ws.length : Nat) : Int) = V.int 3)) = false from by rw [lw, r3]; rfl]
                  refine iteF ?_
                  have yes3 : AV.isThree (.seq ys) = ys.all AV.isInt := by simp [AV.isThree, r3]
                  refine .inl ⟨_, rfl, b, rfl, ⟨_, hb1⟩, fun D hD => lcL (fun v => some (.bl (isIntV v))) hb1 (by rw [lw, r3]; decide) hD (fun x hx H5 s5 G N h1 h2 => ?_) fun H5 s5 h5 => ?_⟩
                  · obtain ⟨k, hk⟩ := List.getElem?_of_mem hx
                    obtain ⟨y, _, hy⟩ := AVals.at hw hk
                    have h2' : G (.bl y.isInt) H5 := h2 _ (by show some (V.bl (isIntV x)) = _; rw [hy.isInt]) _ (Same.refl _)
                    refine ⟨rfl, yes_ite ?_⟩
                    exact int_test3 (hy.same (s4.trans s5)) h2'
                  · rw [fx_isInt] at h5
                    refine ⟨D, ws.map isIntV, rfl, SqL.mk h5, ?_⟩
                    rw [AVals.isInt hw, ← yes3]
                    cases hth : AV.isThree (.seq ys) with
                    | false => exact ⟨false, rfl, iteT (bad _ hth (s4.trans s5))⟩
                    | true => exact ⟨true, rfl, iteF (good _ hth (s4.trans s5))⟩
                · rw [show (!decide (V.int ((ws.length : Nat) : Int) = V.int 3)) = true from by rw [decide_eq_false (fun z => r3 (by have := V.int.inj z; omega))]; rfl]
                  exact iteT (bad _ (by simp [AV.isThree, r3]) s4)
              · refine ⟨_, rfl, by show 2 ≤ sizeLine; decide, fun p hp => ?_⟩
                have s4 : Same H3 (upd H3 p (.tup [.ty "list", .ty "tuple"])) := same_new hp
                have hb1 := same_t s4 hb
                refine ⟨_, p, _, _, _, true, rfl, upd_same, .cons (.ty "list") (.cons (.ty "tuple") .nil), ty_t hb1, kitAny_cons (r := true) kit_tl (fun _ => kitAny_cons kit_tt (fun z => nomatch z) fun _ => rfl) (fun z => nomatch z), ⟨true, rfl, iteF ?_⟩⟩
                revert s4 hb1
                generalize upd H3 p (.tup [.ty "list", .ty "tuple"]) = H4
                intro s4 hb1
                refine ⟨_, rfl, b, _, rfl, .inr hb1, rfl, _, rfl, ?_⟩
                have lw := AVals.len hw
                by_cases r3 : ys.length = 3
                · rw [show (!decide (V.int ((ws.length : Nat) : Int) = V.int 3)) = false from by rw [lw, r3]; rfl]
                  refine iteF ?_
                  have yes3 : AV.isThree (.seq ys) = ys.all AV.isInt := by simp [AV.isThree, r3]
                  refine .inr ⟨_, rfl, b, rfl, ⟨_, hb1⟩, fun D hD => lcT (fun v => some (.bl (isIntV v))) hb1 (by rw [lw, r3]; decide) hD (fun x hx H5 s5 G N h1 h2 => ?_) fun H5 s5 h5 => ?_⟩
                  · obtain ⟨k, hk⟩ := List.getElem?_of_mem hx
                    obtain ⟨y, _, hy⟩ := AVals.at hw hk
                    have h2' : G (.bl y.isInt) H5 := h2 _ (by show some (V.bl (isIntV x)) = _; rw [hy.isInt]) _ (Same.refl _)
                    refine ⟨rfl, yes_ite ?_⟩
                    exact int_test3 (hy.same (s4.trans s5)) h2'
                  · rw [fx_isInt] at h5
                    refine ⟨D, ws.map isIntV, rfl, SqL.mk h5, ?_⟩
                    rw [AVals.isInt hw, ← yes3]
                    cases hth : AV.isThree (.seq ys) with
                    | false => exact ⟨false, rfl, iteT (bad _ hth (s4.trans s5))⟩
                    | true => exact ⟨true, rfl, iteF (good _ hth (s4.trans s5))⟩
                · rw [show (!decide (V.int ((ws.length : Nat) : Int) = V.int 3)) = true from by rw [decide_eq_false (fun z => r3 (by have := V.int.inj z; omega))]; rfl]
                  exact iteT (bad _ (by simp [AV.isThree, r3]) s4)
          · rintro σ H2 ⟨y1, y2, rfl, s2, al⟩
            have s12 := s1.trans s2
            rw [lv, List.take_length] at al
            have hrw : AV.isRows (.seq xs) = true := by
              show (decide (xs.length = 3) && xs.all AV.isThree) = true
              rw [Bool.and_eq_true, List.all_eq_true]
              exact ⟨decide_eq_true h3, al⟩
            obtain ⟨a1, b1, c1, d1, e1, f1, g1, h1, i1, ex⟩ := AV.rows hrw
            have nums := ok.nums _ _ _ _ _ _ _ _ _ ex
            cases ex
            obtain ⟨p1, q1, r1, rfl, m1, m2, m3⟩ := rows_at hq
            have hs2 := same_t s2 hs1
            refine ⟨_, rfl, .inr (.inl ⟨a, _, 0, .ref p1, rfl, rfl, hs2, rfl, ?_⟩)⟩
            refine ⟨_, rfl, .inr (.inl ⟨a, _, 1, .ref q1, rfl, rfl, hs2, rfl, ?_⟩)⟩
            refine ⟨_, rfl, .inr (.inl ⟨a, _, 2, .ref r1, rfl, rfl, hs2, rfl, ?_⟩)⟩
            refine ⟨p1, q1, r1, a1, b1, c1, d1, e1, f1, g1, h1, i1, rfl, m1.same s12, m2.same s12, m3.same s12, nums, fun H3 s3 => ⟨rfl, ?_⟩⟩
            have ed : (!decide (V.int (detL a1 b1 c1 d1 e1 f1 g1 h1 i1) = V.int 0)) = decide (detL a1 b1 c1 d1 e1 f1 g1 h1 i1 ≠ 0) := by
              by_cases z : detL a1 b1 c1 d1 e1 f1 g1 h1 i1 = 0 <;> simp [z]
            rw [ed]
            exact q _ (s12.trans s3)
        · rw [show (!decide (V.int ((vs.length : Nat) : Int) = V.int 3)) = true from by rw [decide_eq_false (fun z => h3 (by have := V.int.inj z; omega))]; rfl]
          refine iteT ?_
          have nt : AV.isTable (.seq xs) = false := AV.noTable (by simp [AV.isRows, h3])
          rw [← nt]
          exact q _ s1
end
end G0

namespace G0
open PySem PySem.Spec PyProof.Rows L2
/-! ### repr of data in which empty dicts may stand -/
mutual
inductive Rp (K : PySem.W.Frag) (H : Hp) : V → PyData → Prop where
  | dat {v : V} {d : PyData} (h : Dp K H v d) (n : d.hasDict = false) : Rp K H v d
  | emp {a : Addr} (h : H a = some (.dK [])) : Rp K H (.ref a) (.dict [])
  | lst {a : Addr} {vs : List V} {ds : List PyData} (h : SqL K H a vs) (hs : RpA K H vs ds) : Rp K H (.ref a) (.list ds)
  | tup {a : Addr} {vs : List V} {ds : List PyData} (h : SqT K H a vs) (hs : RpA K H vs ds) : Rp K H (.ref a) (.tuple ds)
inductive RpA (K : PySem.W.Frag) (H : Hp) : List V → List PyData → Prop where
  | nil : RpA K H [] []
  | cons {v : V} {vs : List V} {d : PyData} {ds : List PyData} : Rp K H v d → RpA K H vs ds → RpA K H (v :: vs) (d :: ds)
end
mutual
theorem Rp.same {K : PySem.W.Frag} {H H' : Hp} (e : Same H H') : ∀ {v : V} {d : PyData}, Rp K H v d → Rp K H' v d
  | _, _, .dat h n => .dat (Dp.same e h) n
  | _, _, .emp h => .emp (e _ _ h)
  | _, _, .lst h hs => .lst (e.seq h) (RpA.same e hs)
  | _, _, .tup h hs => .tup (same_t e h) (RpA.same e hs)
theorem RpA.same {K : PySem.W.Frag} {H H' : Hp} (e : Same H H') : ∀ {vs : List V} {ds : List PyData}, RpA K H vs ds → RpA K H' vs ds
  | _, _, .nil => .nil
  | _, _, .cons h hs => .cons (Rp.same e h) (RpA.same e hs)
end
theorem emp_obj {P : Program} {w : World} {H : Hp} {h : Heap} {a : Addr} (ok : HOk P w H h) (e : H a = some (.dK [])) : (a == sysModules) = false ∧ ∃ o ep, h.get? a = some o ∧ o.cls = .type "dict" ∧ o.data = .dict #[] ep := by
  obtain ⟨_, hd, vs, rel, o, es, ep, ho, ex, hdata, _, pr, _⟩ := dk_of ok e
  refine ⟨hd, o, ep, ho, ex.1, ?_⟩
  cases rel
  have : es = #[] := by
    cases es with
    | mk l =>
      cases pr
      rfl
  rw [hdata, this]
section
variable {X : Cx} {pins : List (Addr × Obj)} {σ : L2.St} {H : Hp} {s : Shared}
mutual
theorem Rp.look (J : Inv X pins σ H s) : ∀ {v : V} {d : PyData} {u : Value}, Rp X.K H v d → RelV v u → d.showable = true → d.shown.length ≤ sizeLine →
    (∃ as, Reads s.heap u d as) ∧ ∃ bs, ReadAtMost s.heap d.depth bs ∧ ReprK X.prog X.w bs s.heap d.depth u d.shown
  | _, d, u, .dat h n, r, hs, hz => by
    obtain ⟨as, rd⟩ := Dp.reads J d _ _ h r
    exact ⟨⟨as, rd⟩, ReprK.of_reads rd hs (fun e => by rw [n] at e; cases e) hz⟩
  | _, _, u, .emp (a := a) h, r, hs, hz => by
    cases r
    obtain ⟨hsys, o, ep, ho, hc, hd⟩ := emp_obj J.hok h
    have rd : Reads s.heap (.ref a) (.dict []) [a] := Reads.dict (es := #[]) (kvs := []) (as := []) (bs := []) ho hc hd .nil .nil
    refine ⟨⟨_, rd⟩, [a], ReadAtMost.cons rd (Nat.zero_le _) (fun _ h => nomatch h), ?_⟩
    simp only [PyData.depth, PyData.shown]
    exact ReprK.dict ho hc hd hsys (fun h => nomatch h) (.nil)
  | _, .list ds, u, .lst (a := a) (vs := vs) h ha, r, hs, hz => by
    cases r
    obtain ⟨its, rv, ⟨o, n, ho, hc, _, hd⟩, _⟩ := J.list h
    have hz1 : (listText (PyData.shownAll ds)).length ≤ sizeLine := by simpa only [PyData.shown] using hz
    obtain ⟨⟨as, rs⟩, bs, hb, hk⟩ := RpA.look J ha rv (by simpa [PyData.showable] using hs) fun t ht => Nat.le_trans (listText_mem_le ht) hz1
    have rd : Reads s.heap (.ref a) (.list ds) (a :: as) := Reads.list ho hc hd (by simpa using rs)
    have na : a ∉ bs := not_mem_of_deeper rd (by simp only [PyData.depth]; omega) hb
    refine ⟨⟨_, rd⟩, a :: bs, ReadAtMost.cons rd (by simp only [PyData.depth]; omega) hb, ?_⟩
    simp only [PyData.depth, PyData.shown]
    cases its with
    | nil =>
      rw [List.length_eq_zero_iff.mp hk.length_eq, listText_nil]
      exact ReprK.listEmpty ho hc hd
    | cons x l => exact ReprK.list ho hc hd na (by simpa using hk.length_eq) fun i y e => hk.item i y (by simpa using e)
  | _, .tuple ds, u, .tup (a := a) (vs := vs) h ha, r, hs, hz => by
    cases r
    obtain ⟨its, rv, ⟨o, ho, hc, n, hd⟩, _⟩ := J.tuple h
    have hz1 : (tupleText (PyData.shownAll ds)).length ≤ sizeLine := by simpa only [PyData.shown] using hz
    obtain ⟨⟨as, rs⟩, bs, hb, hk⟩ := RpA.look J ha rv (by simpa [PyData.showable] using hs) fun t ht => Nat.le_trans (tupleText_mem_le ht) hz1
    have rd : Reads s.heap (.ref a) (.tuple ds) as := Reads.tuple ho hc hd (by simpa using rs)
    have na : a ∉ bs := not_mem_of_deeper rd (by simp only [PyData.depth]; omega) hb
    refine ⟨⟨_, rd⟩, a :: bs, ReadAtMost.cons rd (by simp only [PyData.depth]; omega) hb, ?_⟩
    simp only [PyData.depth, PyData.shown]
    exact ReprK.tuple ho hc hd na (by simpa using hk)
theorem RpA.look (J : Inv X pins σ H s) : ∀ {vs : List V} {ds : List PyData} {us : List Value}, RpA X.K H vs ds → Vals vs us → PyData.showableAll ds = true → (∀ t ∈ PyData.shownAll ds, t.length ≤ sizeLine) →
    (∃ as, ReadsAll s.heap us ds as) ∧ ∃ bs, ReadAtMost s.heap (PyData.depthAll ds) bs ∧ ReprAllK X.prog X.w bs s.heap (PyData.depthAll ds) us (PyData.shownAll ds)
  | _, _, _, .nil, r, _, _ => by
    cases r
    exact ⟨⟨_, .nil⟩, [], (fun _ h => nomatch h), by simp only [PyData.shownAll]; exact .nil⟩
  | _, _, _, .cons (d := d) (ds := ds) h hs, r, sh, hz => by
    cases r with
    | cons r1 r2 =>
      have sh2 : d.showable = true ∧ PyData.showableAll ds = true := by simpa [PyData.showableAll] using sh
      have z1 : d.shown.length ≤ sizeLine := hz _ (by simp only [PyData.shownAll]; exact List.mem_cons_self)
      obtain ⟨⟨as, q1⟩, b1, m1, k1⟩ := Rp.look J h r1 sh2.1 z1
      obtain ⟨⟨bs, q2⟩, b2, m2, k2⟩ := RpA.look J hs r2 sh2.2 fun t ht => hz t (by simp only [PyData.shownAll]; exact List.mem_cons_of_mem _ ht)
      refine ⟨⟨_, .cons q1 q2⟩, b1 ++ b2, ?_, ?_⟩
      · simp only [PyData.depthAll]
        exact (m1.mono (Nat.le_max_left _ _)).append (m2.mono (Nat.le_max_right _ _))
      · simp only [PyData.depthAll, PyData.shownAll]
        exact .cons ((k1.more fun b hb => List.mem_append_left _ hb).level_le (Nat.le_max_left _ _)) (k2.more_le (fun b hb => List.mem_append_right _ hb) (Nat.le_max_right _ _))
end
end
/-- repr of such data -/
theorem cr_reprAny {X : Cx} (gd : X.A.guards = some []) (hu : X.A.units + 64 < cLine) : CallR X (.builtin "repr") (fun xs H Q => ∃ (v : V) (d : PyData), xs = [v] ∧ Rp X.K H v d ∧ d.showable = true ∧ d.depth ≤ 16 ∧ d.shown.length ≤ sizeLine ∧ Q (.str d.shown) H) := by
  intro pn s σ H xs us Q J rv h
  obtain ⟨v, d, rfl, rp, sh, dep, z, q⟩ := h
  obtain ⟨u, rfl, ru⟩ := vals1 rv
  have fin : ∀ h2 u2 tk, (∀ b o, s.heap.get? b = some o → h2.get? b = some o) → (EP X pn σ Q) (.str d.shown u2) { s with heap := h2, toks := tk } := fun h2 u2 tk keep => ⟨.str d.shown, H, J.kept keep, ⟨_, rfl⟩, q⟩
  cases rp with
  | dat h n =>
    cases h with
    | non =>
      cases ru
      simp only [PyData.shown] at fin
      exact PySem.P.repr_of_none (fin s.heap _ _ fun _ _ e => e)
    | bl b =>
      cases ru
      simp only [PyData.shown] at fin
      exact PySem.P.repr_of_bool (fin s.heap _ _ fun _ _ e => e)
    | int i =>
      obtain ⟨t, rfl⟩ := ru
      simp only [PyData.shown] at fin
      exact PySem.P.repr_of_int (by simpa [PyData.showable] using sh) (fin s.heap _ _ fun _ _ e => e)
    | str x =>
      obtain ⟨t, rfl⟩ := ru
      simp only [PyData.shown] at fin z
      exact PySem.P.repr_of_str (fin s.heap _ _ fun _ _ e => e) z
    | lst h a =>
      cases ru
      obtain ⟨as, rd⟩ := Dp.reads J _ _ _ (.lst h a) rfl
      exact repr_of_reads' rd sh (fun e => by rw [n] at e; cases e) gd (by omega) (fun _ _ e => e) fin z
    | tup h a =>
      cases ru
      obtain ⟨as, rd⟩ := Dp.reads J _ _ _ (.tup h a) rfl
      exact repr_of_reads' rd sh (fun e => by rw [n] at e; cases e) gd (by omega) (fun _ _ e => e) fin z
  | emp h =>
    cases ru
    obtain ⟨hsys, o, ep, ho, hc, hd⟩ := emp_obj J.hok h
    simp only [PyData.shown] at fin z
    refine call_repr_slot (T := "dict") (idr := "dict.__repr__") (by omega) ⟨o, ho, hc⟩ F.slot_dict_repr ?_
    exact call_dict_reprK (as := []) (d := 0) ho hc hd hsys (fun h => nomatch h) (.nil) gd (fun b _ => Clear.nil b) (by show X.A.units + 1 + (0 + 1) < cLine; omega) (fun _ _ e => e) (fun h' u tk hk => ⟨_, _, rfl, fin h' u tk hk⟩) z
  | lst h ha =>
    cases ru
    simp only [PyData.depth] at dep
    obtain ⟨its, rv2, ⟨o, n, ho, hc, _, hd⟩, _⟩ := J.list h
    simp only [PyData.shown] at fin z
    obtain ⟨⟨as, rs⟩, bs, hb, hk⟩ := RpA.look J ha rv2 (by simpa [PyData.showable] using sh) fun t ht => Nat.le_trans (listText_mem_le ht) z
    have rd : Reads s.heap _ _ _ := Reads.list ho hc hd (by simpa using rs)
    have na := not_mem_of_deeper rd (by simp only [PyData.depth]; omega) hb
    refine call_repr_slot (T := "list") (idr := "list.__repr__") (by omega) ⟨o, ho, hc⟩ F.slot_list_repr.toG ?_
    cases its with
    | nil =>
      rw [List.length_eq_zero_iff.mp hk.length_eq, listText_nil] at fin
      exact call_list_repr_empty ⟨o, ho, hc⟩ ho hd ⟨_, _, rfl, fin s.heap _ _ fun _ _ e => e⟩
    | cons x l =>
      exact call_list_reprK ho hc hd na (by simpa using hk.length_eq) (fun i y e => hk.item i y (by simpa using e)) gd (fun b _ => Clear.nil b) (by show X.A.units + 1 + _ < cLine; omega) (fun _ _ e => e) (fun h' u tk hk => ⟨_, _, rfl, fin h' u tk hk⟩) z
  | tup h ha =>
    cases ru
    simp only [PyData.depth] at dep
    obtain ⟨its, rv2, ⟨o, ho, hc, n, hd⟩, _⟩ := J.tuple h
    simp only [PyData.shown] at fin z
    obtain ⟨⟨as, rs⟩, bs, hb, hk⟩ := RpA.look J ha rv2 (by simpa [PyData.showable] using sh) fun t ht => Nat.le_trans (tupleText_mem_le ht) z
    have rd : Reads s.heap _ _ _ := Reads.tuple ho hc hd (by simpa using rs)
    have na := not_mem_of_deeper rd (by simp only [PyData.depth]; omega) hb
    refine call_repr_slot (T := "tuple") (idr := "tuple.__repr__") (by omega) ⟨o, ho, hc⟩ F.slot_tuple_repr ?_
    exact call_tuple_reprK ho hc hd na (by simpa using hk) gd (fun b _ => Clear.nil b) (by show X.A.units + 1 + _ < cLine; omega) (fun _ _ e => e) (fun h' u tk hk => ⟨_, _, rfl, fin h' u tk hk⟩) z
end G0

namespace G0
open PySem PySem.Spec PyProof.Rows L2
/-! ### tame values: atoms, and lists and tuples of few of them, no deeper than told -/
mutual
inductive Tm (K : PySem.W.Frag) (H : Hp) : Nat → V → AV → Prop where
  | int {k : Nat} {n : Int} (h : n.natAbs < 2 ^ 30) : Tm K H k (.int n) (.int n)
  | non {k : Nat} : Tm K H k .non .other
  | bl {k : Nat} {b : Bool} : Tm K H k (.bl b) .other
  | str {k : Nat} {z : Str} (h : (reprText z).length ≤ 100) : Tm K H k (.str z) .other
  | emp {k : Nat} {a : Addr} (h : H a = some (.dK [])) : Tm K H k (.ref a) .other
  | seq {k : Nat} {a : Addr} {vs : List V} {xs : List AV} (h : Sq K H a vs) (l : vs.length ≤ 6) (hs : TmA K H k vs xs) : Tm K H (k + 1) (.ref a) (.seq xs)
inductive TmA (K : PySem.W.Frag) (H : Hp) : Nat → List V → List AV → Prop where
  | nil {k : Nat} : TmA K H k [] []
  | cons {k : Nat} {v : V} {vs : List V} {x : AV} {xs : List AV} : Tm K H k v x → TmA K H k vs xs → TmA K H k (v :: vs) (x :: xs)
end
mutual
theorem Tm.same {K : PySem.W.Frag} {H H' : Hp} (e : Same H H') : ∀ {k : Nat} {v : V} {x : AV}, Tm K H k v x → Tm K H' k v x
  | _, _, _, .int h => .int h
  | _, _, _, .non => .non
  | _, _, _, .bl => .bl
  | _, _, _, .str h => .str h
  | _, _, _, .emp h => .emp (e _ _ h)
  | _, _, _, .seq h l hs => .seq (h.same e) l (TmA.same e hs)
theorem TmA.same {K : PySem.W.Frag} {H H' : Hp} (e : Same H H') : ∀ {k : Nat} {vs : List V} {xs : List AV}, TmA K H k vs xs → TmA K H' k vs xs
  | _, _, _, .nil => .nil
  | _, _, _, .cons h hs => .cons (Tm.same e h) (TmA.same e hs)
end
mutual
theorem Tm.up {K : PySem.W.Frag} {H : Hp} {j : Nat} : ∀ {k : Nat} {v : V} {x : AV}, Tm K H k v x → k ≤ j → Tm K H j v x
  | _, _, _, .int h, _ => .int h
  | _, _, _, .non, _ => .non
  | _, _, _, .bl, _ => .bl
  | _, _, _, .str h, _ => .str h
  | _, _, _, .emp h, _ => .emp h
  | k + 1, _, _, .seq h l hs, le => by
    obtain ⟨i, rfl⟩ : ∃ i, j = i + 1 := ⟨j - 1, by omega⟩
    exact .seq h l (TmA.up (j := i) hs (by omega))
theorem TmA.up {K : PySem.W.Frag} {H : Hp} {j : Nat} : ∀ {k : Nat} {vs : List V} {xs : List AV}, TmA K H k vs xs → k ≤ j → TmA K H j vs xs
  | _, _, _, .nil, _ => .nil
  | _, _, _, .cons h hs, le => .cons (Tm.up h le) (TmA.up hs le)
end
theorem TmA.len {K : PySem.W.Frag} {H : Hp} {k : Nat} : ∀ {vs : List V} {xs : List AV}, TmA K H k vs xs → vs.length = xs.length
  | _, _, .nil => rfl
  | _, _, .cons _ hs => by rw [List.length_cons, List.length_cons, TmA.len hs]
theorem TmA.mem {K : PySem.W.Frag} {H : Hp} {k : Nat} : ∀ {vs : List V} {xs : List AV}, TmA K H k vs xs → ∀ y ∈ xs, ∃ v, Tm K H k v y
  | _, _, .nil, y, h => nomatch h
  | _, _, .cons h hs, y, m => by
    rcases List.mem_cons.mp m with rfl | m
    · exact ⟨_, h⟩
    · exact TmA.mem hs y m
section
variable {K : PySem.W.Frag} {H : Hp}
theorem av_non : AVal K H .non .other := .other (t := .type "NoneType") (i := false) (b := false) (.base .non) (kit_ty (by decide +kernel)) (kit_ty (by decide +kernel)) rfl (kit_ty (by decide +kernel)) (kit_ty (by decide +kernel))
theorem av_bl (b : Bool) : AVal K H (.bl b) .other := .other (t := .type "bool") (i := true) (b := true) (.base (.bl b)) (kit_ty (by decide +kernel)) (kit_ty (by decide +kernel)) rfl (kit_ty (by decide +kernel)) (kit_ty (by decide +kernel))
theorem av_str (z : Str) : AVal K H (.str z) .other := .other (t := .type "str") (i := false) (b := false) (.base (.str z)) (kit_ty (by decide +kernel)) (kit_ty (by decide +kernel)) rfl (kit_ty (by decide +kernel)) (kit_ty (by decide +kernel))
theorem av_dk {a : Addr} {es : List (Key × V)} (h : H a = some (.dK es)) : AVal K H (.ref a) .other := .other (t := .type "dict") (i := false) (b := false) (.base (.dK h)) (kit_ty (by decide +kernel)) (kit_ty (by decide +kernel)) rfl (kit_ty (by decide +kernel)) (kit_ty (by decide +kernel))
end
mutual
theorem Tm.val {K : PySem.W.Frag} {H : Hp} : ∀ {k : Nat} {v : V} {x : AV}, Tm K H k v x → AVal K H v x
  | _, _, _, .int _ => .int _
  | _, _, _, .non => av_non
  | _, _, _, .bl => av_bl _
  | _, _, _, .str _ => av_str _
  | _, _, _, .emp h => av_dk h
  | _, _, _, .seq h _ hs => .seq h (TmA.val hs)
theorem TmA.val {K : PySem.W.Frag} {H : Hp} : ∀ {k : Nat} {vs : List V} {xs : List AV}, TmA K H k vs xs → AVals K H vs xs
  | _, _, _, .nil => .nil
  | _, _, _, .cons h hs => .cons (Tm.val h) (TmA.val hs)
end
theorem Tm.seqLen {K : PySem.W.Frag} {H : Hp} {k : Nat} {v : V} {xs : List AV} (h : Tm K H k v (.seq xs)) : xs.length < 1000000 := by
  cases h with
  | seq h l hs =>
    rw [← TmA.len hs]
    omega
theorem Tm.num {K : PySem.W.Frag} {H : Hp} {k : Nat} {v : V} {n : Int} (h : Tm K H k v (.int n)) : n.natAbs < 2 ^ 30 := by
  cases h with
  | int h => exact h
theorem Tm.sub {K : PySem.W.Frag} {H : Hp} {k : Nat} {v : V} {xs : List AV} (h : Tm K H k v (.seq xs)) : ∀ y ∈ xs, ∃ j u, Tm K H j u y := by
  cases h with
  | seq h l hs =>
    intro y hy
    obtain ⟨u, hu⟩ := TmA.mem hs y hy
    exact ⟨_, u, hu⟩
theorem Tm.ok {K : PySem.W.Frag} {H : Hp} {k : Nat} {v : V} {x : AV} (h : Tm K H k v x) : AvOk x := by
  refine ⟨fun xs e => ?_, fun xs e y hy ys ey => ?_, fun a b c d e f g h' i ex n hn => ?_⟩
  · subst e
    exact h.seqLen
  · subst e
    subst ey
    obtain ⟨j, u, hu⟩ := h.sub _ hy
    exact hu.seqLen
  · subst ex
    obtain ⟨j1, u1, h1⟩ := h.sub (.seq [.int a, .int b, .int c]) (by simp)
    obtain ⟨j2, u2, h2⟩ := h.sub (.seq [.int d, .int e, .int f]) (by simp)
    have q1 : ∀ m ∈ [a, b, c], m.natAbs < 2 ^ 30 := fun m hm => by
      obtain ⟨j, u, hu⟩ := h1.sub (.int m) (by simpa using hm)
      exact hu.num
    have q2 : ∀ m ∈ [d, e, f], m.natAbs < 2 ^ 30 := fun m hm => by
      obtain ⟨j, u, hu⟩ := h2.sub (.int m) (by simpa using hm)
      exact hu.num
    rcases List.mem_append.mp (show n ∈ [a, b, c] ++ [d, e, f] from hn) with hn | hn
    · exact q1 n hn
    · exact q2 n hn
def bnd : Nat → Nat
  | 0 => 2000
  | k + 1 => 6 * (bnd k + 2) + 2004
theorem bnd_ge (k : Nat) : 2000 ≤ bnd k := by
  cases k with
  | zero => exact Nat.le_refl _
  | succ k =>
    show 2000 ≤ 6 * (bnd k + 2) + 2004
    omega
mutual
theorem Tm.rs {K : PySem.W.Frag} {H : Hp} : ∀ {k : Nat} {v : V} {x : AV}, Tm K H k v x → ∃ d, Rp K H v d ∧ d.showable = true ∧ d.depth ≤ k + 1 ∧ d.shown.length ≤ bnd k
  | k, _, _, .int (n := n) h => by
    have sh : (PyData.int n).showable = true := by simp only [PyData.showable, decide_eq_true_eq]; exact small_log (Nat.lt_trans h (by decide +kernel))
    have z := shown_le (.int n) sh (by simp only [PyData.hasDict])
    have e : szD (.int n) = 1930 := by simp only [szD]
    have := bnd_ge k
    exact ⟨.int n, .dat (.int n) (by simp only [PyData.hasDict]), sh, by simp only [PyData.depth]; omega, by omega⟩
  | k, _, _, .non => by
    have := bnd_ge k
    have z := shown_le .none (by simp only [PyData.showable]) (by simp only [PyData.hasDict])
    have e : szD .none = 5 := by simp only [szD]
    exact ⟨.none, .dat .non (by simp only [PyData.hasDict]), by simp only [PyData.showable], by simp only [PyData.depth]; omega, by omega⟩
  | k, _, _, .bl (b := b) => by
    have := bnd_ge k
    have z := shown_le (.bool b) (by simp only [PyData.showable]) (by simp only [PyData.hasDict])
    have e : szD (.bool b) = 5 := by simp only [szD]
    exact ⟨.bool b, .dat (.bl b) (by simp only [PyData.hasDict]), by simp only [PyData.showable], by simp only [PyData.depth]; omega, by omega⟩
  | k, _, _, .str (z := y) h => by
    have := bnd_ge k
    have z := shown_le (.str y) (by simp only [PyData.showable]) (by simp only [PyData.hasDict])
    have e : szD (.str y) = (reprText y).length := by simp only [szD]
    exact ⟨.str y, .dat (.str y) (by simp only [PyData.hasDict]), by simp only [PyData.showable], by simp only [PyData.depth]; omega, by omega⟩
  | k, _, _, .emp h => by
    have := bnd_ge k
    refine ⟨.dict [], .emp h, by simp [PyData.showable, PyData.showableKv], by simp [PyData.depth, PyData.depthKv], ?_⟩
    have : (PyData.dict []).shown.length = 2 := by
      simp only [PyData.shown, PyData.shownKv]
      decide
    omega
  | k + 1, _, _, .seq (a := a) (vs := vs) h l hs => by
    obtain ⟨ds, rs, sh, dp, pl⟩ := TmA.rs hs
    have e : bnd (k + 1) = 6 * (bnd k + 2) + 2004 := rfl
    have m : vs.length * (bnd k + 2) ≤ 6 * (bnd k + 2) := Nat.mul_le_mul_right _ l
    rcases h with h | h
    · refine ⟨.list ds, .lst h rs, by simp only [PyData.showable]; exact sh, by simp only [PyData.depth]; omega, ?_⟩
      have := list_text (PyData.shownAll ds)
      simp only [PyData.shown]
      omega
    · refine ⟨.tuple ds, .tup h rs, by simp only [PyData.showable]; exact sh, by simp only [PyData.depth]; omega, ?_⟩
      have := fmt_text (PyData.shownAll ds)
      simp only [PyData.shown]
      omega
theorem TmA.rs {K : PySem.W.Frag} {H : Hp} : ∀ {k : Nat} {vs : List V} {xs : List AV}, TmA K H k vs xs → ∃ ds, RpA K H vs ds ∧ PyData.showableAll ds = true ∧ PyData.depthAll ds ≤ k + 1 ∧ piled (PyData.shownAll ds) ≤ vs.length * (bnd k + 2)
  | _, _, _, .nil => ⟨[], .nil, by simp only [PyData.showableAll], by simp only [PyData.depthAll]; exact Nat.zero_le _, by simp only [PyData.shownAll, piled_nil]; exact Nat.zero_le _⟩
  | k, _, _, .cons (vs := vs) h hs => by
    obtain ⟨d, r, s, p, z⟩ := Tm.rs h
    obtain ⟨ds, rs, sh, dp, pl⟩ := TmA.rs hs
    refine ⟨d :: ds, .cons r rs, by simp only [PyData.showableAll, s, sh, Bool.and_self], by simp only [PyData.depthAll]; exact Nat.max_le.mpr ⟨p, dp⟩, ?_⟩
    simp only [PyData.shownAll, piled_cons, List.length_cons, Nat.add_mul, Nat.one_mul]
    omega
end
end G0

namespace G0
open PySem PySem.Spec PyProof.Rows L2
abbrev s_ltable : Stmt := top 34
theorem seq_join {ta tb : TS} {D : Ends} {σ : L2.St} {H : Hp} (S : L2.St → Hp → Prop) (h1 : ∀ N : L2.St → Hp → Prop, (∀ σ H, S σ H → N σ H) → ta { D with nx := N } σ H) (h2 : ∀ σ H, S σ H → tb D σ H) : tSeq ta tb D σ H := h1 _ h2
/-- what is known, but of one thing that changes -/
def del (D : Hp) (L : Addr) : Hp := fun a => if a = L then none else D a
theorem del_at {D : Hp} {L : Addr} : del D L L = none := if_pos rfl
theorem del_ne {D : Hp} {L a : Addr} (h : a ≠ L) : del D L a = D a := if_neg h
theorem same_del {D D' : Hp} {L : Addr} (n : D L = none) (e : Same D D') : Same D (del D' L) := fun b o h => by
  rw [del_ne (ne_of_none h n)]
  exact e _ _ h
theorem Wd.del {p L : Addr} {D H : Hp} (w : Wd p D H) : Wd p (del D L) H := by
  refine ⟨fun b o e => ?_, ?_, w.pot⟩
  · by_cases eb : b = L
    · rw [eb, del_at] at e
      cases e
    · rw [del_ne eb] at e
      exact w.s _ _ e
  · by_cases eb : p = L
    · rw [eb]
      exact del_at
    · rw [del_ne eb]
      exact w.n
theorem Wd.over {p L : Addr} {D H : Hp} {o : HO} (w : Wd p D H) (n : D L = none) (hp : L ≠ p) : Wd p D (upd H L o) := by
  obtain ⟨s, n2, a, b, h1, h2, h3, h4⟩ := w
  refine ⟨fun c u e => ?_, n2, a, b, h1, h2, h3, ?_⟩
  · rw [upd_ne (ne_of_none e n)]
    exact s _ _ e
  · rw [upd_ne hp.symm]
    exact h4
theorem Wd.weak {p : Addr} {D D' H : Hp} (w : Wd p D' H) (e : Same D D') : Wd p D H := ⟨e.trans w.s, e.free w.n, w.pot⟩
/-- a row: a list of three small ints -/
def Row3 (D : Hp) (q : Addr) : Prop := ∃ a b c : Int, D q = some (.lst ([a, b, c].map V.int)) ∧ ∀ n ∈ [a, b, c], -20 ≤ n ∧ n ≤ 20
theorem Row3.same {D D' : Hp} {q : Addr} (e : Same D D') : Row3 D q → Row3 D' q := fun ⟨a, b, c, h, l⟩ => ⟨a, b, c, e _ _ h, l⟩
def Rows (v : V) (D : Hp) : Prop := ∃ L q1 q2 q3, v = .ref L ∧ D L = some (.lst [.ref q1, .ref q2, .ref q3]) ∧ Row3 D q1 ∧ Row3 D q2 ∧ Row3 D q3
section
variable {P : Program} {w : World} {K : PySem.W.Frag} {mg : Str → Option Value} {base : Heap}
def sp_ltable : Sp := fun vs H Q _ => ∃ (p : Addr) (D : Hp), vs = [.ref p, .int 3] ∧ Wd p D H ∧ Gets p D Rows Q
theorem sc_ltable : FnScope ["_law_pot_here", "_law_most", "_law_found", "_law_at"] ["_law_pot_here", "_law_most"] (defScope s_ltable) := ⟨rfl, rfl, rfl, by decide +kernel, rfl, by decide +kernel, by decide +kernel⟩
theorem ok_ltable {f f1 f2 f3 f4 : Addr} {fd fd1 fd2 fd3 fd4 : FuncData} (F : Fun K "_law_table" "_law_table" s_ltable f fd) (B : Blt mg)
    (Ddraw : Df K mg "_law_draw" s_draw ["_law_pot_here", "_law_many"] f1 fd1) (Gdraw : FnOk P w K mg base CX0 1 f1 fd1 ["_law_pot_here", "_law_many"] sp_draw)
    (Dpick : Df K mg "_law_pick" s_pick ["_law_pot_here", "_law_some"] f2 fd2) (Gpick : FnOk P w K mg base CX0 2 f2 fd2 ["_law_pot_here", "_law_some"] (sp_pick K))
    (Dpoint : Df K mg "_law_point" s_point ["_law_pot_here", "_law_most"] f3 fd3) (Gpoint : FnOk P w K mg base CX0 2 f3 fd3 ["_law_pot_here", "_law_most"] sp_point)
    (Dwhole : Df K mg "_law_whole" s_lwhole ["_law_one", "_law_other", "_law_third"] f4 fd4) (Gwhole : FnOk P w K mg base CX0 2 f4 fd4 ["_law_one", "_law_other", "_law_third"] (sp_whole K)) :
    FnOk P w K mg base CX0 3 f fd ["_law_pot_here", "_law_most"] sp_ltable := by
  refine F.ok sc_ltable (fun vs H Q E h => ?_) (fun cdv A outer s H vs Q E hr h => ?_)
  · obtain ⟨p, D, rfl, _⟩ := h
    rfl
  · obtain ⟨p, D, rfl, wd, q⟩ := h
    have r1 : Room 1 _ := hr.mono (by decide)
    refine ⟨_, pss_cons (ps_setLc (i := 2) (own := [("_law_at", 3)]) (g := gName 3) (tt := tYes) rfl sc_ltable.nd rfl rfl (sw_true rfl rfl rfl (by decide +kernel)) (pi_range1 (by rfl) B.range (pa_cons pe_int pa_nil)) (blkOk_by (N := ["_law_pot_here", "_law_most", "_law_found", "_law_at"]) (sc := defScope s_ltable) (by decide +kernel)) (fun _ _ _ _ _ => pg_name (i := 3) sc_ltable.nd rfl (Or.inl rfl)) (fun _ _ _ _ _ => pts_nil) (fun _ _ _ _ _ => (pdf Dpoint Gpoint hr (pa_cons (pv 0) (pa_cons (pv 1) pa_nil)))))
      (pss_cons (ps_if (pt_cmpR op_eq (pdf Dwhole Gwhole hr (pa_cons (pe_ix ix_list (pv 2) pe_int (fun _ _ => rfl)) (pa_cons (pe_ix ix_list (pv 2) pe_int (fun _ _ => rfl)) (pa_cons (pe_ix ix_list (pv 2) pe_int (fun _ _ => rfl)) pa_nil)))) pe_int (nomark _)) (pss_one (ps_set (i := 2) sc_ltable.nd rfl (Or.inl rfl) (pe_lst (pa_cons (pe_lst (pa_cons pe_int (pa_cons pe_int (pa_cons pe_int pa_nil)))) (pa_cons (pe_lst (pa_cons (pe_op op_sub (pdf Ddraw Gdraw r1 (pa_cons (pv 0) (pa_cons pe_int pa_nil))) pe_int) (pa_cons pe_int (pa_cons pe_int pa_nil)))) (pa_cons (pe_lst (pa_cons (pe_op op_sub (pdf Ddraw Gdraw r1 (pa_cons (pv 0) (pa_cons pe_int pa_nil))) pe_int) (pa_cons (pe_op op_sub (pdf Ddraw Gdraw r1 (pa_cons (pv 0) (pa_cons pe_int pa_nil))) pe_int) (pa_cons (pdf Dpick Gpick hr (pa_cons (pv 0) (pa_cons (pe_lst (pa_cons pe_int (pa_cons (pe_un un_neg pe_int) (pa_cons pe_int pa_nil)))) pa_nil))) pa_nil)))) pa_nil)))))) pss_nil)
      (pss_one (ps_ret (pv 2)))), ?_⟩
    refine ⟨3, rfl, by decide, by decide, fun L hL => ?_⟩
    have L0 := wd.s.free hL
    have Lp := wd.ne hL
    refine lc_range (n := 3) (fun i H1 => ∃ (D1 : Hp) (qs : List Addr), Same D D1 ∧ D1 L = none ∧ Wd p D1 H1 ∧ qs.length = i ∧ (∀ q ∈ qs, Row3 D1 q) ∧ H1 L = some (.lst (qs.map V.ref))) ⟨D, [], Same.refl _, L0, wd.over L0 Lp, rfl, (fun _ z => nomatch z), upd_same⟩ ?_ ?_
    · rintro i H1 hi ⟨D1, qs, sD, n1, w1, el, hq, h1⟩
      refine ⟨rfl, yes_ite ?_⟩
      refine ⟨_, rfl, _, rfl, p, 3, _, rfl, w1.got n1 Lp h1, by decide, by decide, fun v D2 H2 s2 w2 hv => ?_⟩
      obtain ⟨q, a, b, c, rfl, hv, _, hb⟩ := hv
      have hL2 : D2 L = some (.lst (qs.map V.ref)) := s2 _ _ upd_same
      have s12 : Same D1 D2 := (same_new n1).trans s2
      have qL : q ≠ L := fun e => by
        rw [e, hL2] at hv
        cases qs with
        | nil => cases hv
        | cons x xs => cases hv
      refine ⟨_, w2.s _ _ hL2, by rw [List.length_map]; exact Nat.lt_of_lt_of_le (show qs.length < 3 by omega) (by decide), G0.del D2 L, qs ++ [q], same_del L0 (sD.trans s12), del_at, w2.del.over del_at Lp, by rw [List.length_append, el]; rfl, fun x hx => ?_, by rw [upd_same, List.map_append]; rfl⟩
      rcases List.mem_append.mp hx with hx | hx
      · exact (hq x hx).same (same_del n1 s12)
      · rw [List.mem_singleton.mp hx]
        exact ⟨a, b, c, by rw [del_ne qL]; exact hv, fun n hn => by have := hb n hn; omega⟩
    · rintro H1 ⟨D1, qs, sD, n1, w1, el, hq, h1⟩
      obtain ⟨q1, q2, q3, rfl⟩ : ∃ q1 q2 q3, qs = [q1, q2, q3] := by
        match qs, el with
        | [a, b, c], _ => exact ⟨a, b, c, rfl⟩
      have r1 := hq q1 (by simp)
      have r2 := hq q2 (by simp)
      have r3 := hq q3 (by simp)
      obtain ⟨a, b, c, g1, l1⟩ := r1
      obtain ⟨d, e, f', g2, l2⟩ := r2
      obtain ⟨g, h', i', g3, l3⟩ := r3
      unfold gName
      dsimp only
      refine seq_join (fun σ H' => ∃ M D', σ = [some (.ref p), some (.int 3), some (.ref M), none] ∧ Same D D' ∧ Wd p D' H' ∧ Rows (.ref M) D') ?_ ?_
      · intro N hN
        refine ⟨_, rfl, L, _, _, _, rfl, rfl, SqL.mk h1, rfl, _, rfl, L, _, _, _, rfl, rfl, SqL.mk h1, rfl, _, rfl, L, _, _, _, rfl, rfl, SqL.mk h1, rfl, ?_⟩
        refine ⟨q1, q2, q3, a, b, c, d, e, f', g, h', i', rfl, .inl (SqL.mk (w1.s _ _ g1)), .inl (SqL.mk (w1.s _ _ g2)), .inl (SqL.mk (w1.s _ _ g3)), fun n hn => ?_, fun H2 s2 => ⟨rfl, _, rfl, ?_⟩⟩
        · have key : -20 ≤ n ∧ n ≤ 20 := (List.mem_append.mp (show n ∈ [a, b, c] ++ [d, e, f'] from hn)).elim (l1 n) (l2 n)
          refine Nat.lt_of_le_of_lt (show n.natAbs ≤ 20 by omega) (by decide)
        have w2 := w1.pure s2
        have z2 := s2 _ _ h1
        refine ite2 (fun _ => ?_) (fun _ => ?_)
        · refine ⟨by show 3 ≤ sizeLine; decide, fun A1 hA => ?_⟩
          obtain ⟨wA, sA, zA⟩ := w2.new (same_new hA) hA upd_same
          refine ⟨_, rfl, p, 5, _, rfl, wA, by decide, by decide, fun H3 x w3 x0 x1 => ⟨_, _, rfl, rfl, by show 3 ≤ sizeLine; decide, fun B1 hB => ?_⟩⟩
          obtain ⟨wB, sB, zB⟩ := w3.new (same_new hB) hB upd_same
          refine ⟨_, rfl, p, 3, _, rfl, wB, by decide, by decide, fun H4 y w4 y0 y1 => ⟨_, _, rfl, rfl, ?_⟩⟩
          refine ⟨_, rfl, p, 5, _, rfl, w4, by decide, by decide, fun H5 z w5 z0 z1 => ⟨_, _, rfl, rfl, ?_⟩⟩
          refine ⟨_, rfl, _, rfl, by show 3 ≤ sizeLine; decide, fun C1 hC => ?_⟩
          obtain ⟨wC, sC, zC⟩ := w5.new (same_new hC) hC upd_same
          refine ⟨p, C1, _, _, rfl, wC, SqL.mk zC, by show 1 ≤ 3; decide, by show 3 < 1000000; decide, fun H6 v w6 hv => ?_⟩
          obtain ⟨k, rfl, k0, k1⟩ : ∃ k : Int, v = .int k ∧ -2 ≤ k ∧ k ≤ 2 := by
            simp only [List.mem_cons, List.not_mem_nil, or_false] at hv
            rcases hv with rfl | rfl | rfl
            · exact ⟨_, rfl, by decide, by decide⟩
            · exact ⟨_, rfl, by decide, by decide⟩
            · exact ⟨_, rfl, by decide, by decide⟩
          refine ⟨by show 3 ≤ sizeLine; decide, fun C2 hC2 => ?_⟩
          obtain ⟨wE, sE, zE⟩ := w6.new (same_new hC2) hC2 upd_same
          refine ⟨by show 3 ≤ sizeLine; decide, fun M hM => ?_⟩
          obtain ⟨wM, sM, zM⟩ := wE.new (same_new hM) hM upd_same
          have sBM := (sC.trans sE).trans sM
          refine hN _ _ ⟨M, _, rfl, sD.trans (sA.trans (sB.trans sBM)), wM, M, A1, B1, C2, rfl, zM, ⟨1, 0, 0, sBM _ _ (sB _ _ zA), fun n hn => ?_⟩, ⟨x - 2, 1, 0, sBM _ _ zB, fun n hn => ?_⟩, ⟨y - 1, z - 2, k, sM _ _ zE, fun n hn => ?_⟩⟩
          all_goals
            simp only [List.mem_cons, List.not_mem_nil, or_false] at hn
            omega
        · refine hN _ _ ⟨L, upd D1 L (.lst ([q1, q2, q3].map V.ref)), rfl, sD.trans (same_new n1), w2.got n1 Lp z2, L, q1, q2, q3, rfl, upd_same, ?_, ?_, ?_⟩
          · exact Row3.same (same_new n1) ⟨a, b, c, g1, l1⟩
          · exact Row3.same (same_new n1) ⟨d, e, f', g2, l2⟩
          · exact Row3.same (same_new n1) ⟨g, h', i', g3, l3⟩
      · rintro σ H' ⟨M, D', rfl, s', w', r'⟩
        exact ⟨_, rfl, q _ _ _ s' w' r'⟩
end
end G0

namespace G0
open PySem PySem.Spec PyProof.Rows L2
abbrev s_lbent : Stmt := top 37
theorem cut_lo (xs : List V) (i : Nat) : cutV xs none (some (i : Int)) = xs.take i := by
  unfold cutV
  rw [HT.sIx_none, HT.sIx_nat, List.drop_zero, Nat.sub_zero]
  by_cases h : i ≤ xs.length
  · rw [Nat.min_eq_left h]
  · rw [Nat.min_eq_right (by omega), List.take_length, List.take_of_length_le (by omega)]
theorem cut_hi (xs : List V) (i : Nat) : cutV xs (some (i : Int)) none = xs.drop i := by
  unfold cutV
  rw [HT.sIx_none, HT.sIx_nat]
  by_cases h : i ≤ xs.length
  · rw [Nat.min_eq_left h, List.take_of_length_le (by rw [List.length_drop]; omega)]
  · rw [Nat.min_eq_right (by omega), Nat.sub_self, List.take_zero, List.drop_of_length_le (by omega)]
theorem tma_of {K : PySem.W.Frag} {H : Hp} {k : Nat} : ∀ {us : List V}, (∀ u ∈ us, ∃ x, Tm K H k u x) → ∃ xs, TmA K H k us xs
  | [], _ => ⟨[], .nil⟩
  | u :: us, h => by
    obtain ⟨x, hx⟩ := h u (by simp)
    obtain ⟨xs, hs⟩ := tma_of (us := us) fun v hv => h v (by simp [hv])
    exact ⟨x :: xs, .cons hx hs⟩
theorem tm_seq {K : PySem.W.Frag} {H : Hp} {k : Nat} {a : Addr} {us : List V} (h : Sq K H a us) (l : us.length ≤ 6) (hs : ∀ u ∈ us, ∃ x, Tm K H k u x) : ∃ x, Tm K H (k + 1) (.ref a) x := by
  obtain ⟨xs, t⟩ := tma_of hs
  exact ⟨_, .seq h l t⟩
theorem listK {X : Cx} {K : PySem.W.Frag} (h : X.K = K) : CallR X (.type "list") (fun xs H Q => ∃ (p : Addr) (ys : List V), xs = [.ref p] ∧ (SqL K H p ys ∨ SqT K H p ys) ∧ ∀ l, H l = none → Q (.ref l) (upd H l (.lst ys))) := by
  subst h
  exact call_list_of
theorem same_dd {D D' : Hp} {X : Addr} (e : Same D D') : Same (del D X) (del D' X) := fun b o h => by
  by_cases eb : b = X
  · rw [eb, del_at] at h
    cases h
  · rw [del_ne eb] at h ⊢
    exact e _ _ h
theorem del_sub {D : Hp} {X : Addr} : Same (del D X) D := fun b o h => by
  by_cases eb : b = X
  · rw [eb, del_at] at h
    cases h
  · rw [del_ne eb] at h
    exact h
/-- one thing that stands, the pot or another -/
def On (p X : Addr) (D : Hp) : Prop := X = p ∨ ∃ o, D X = some o
theorem On.same {p X : Addr} {D D' : Hp} (e : Same D D') (h : On p X D) : On p X D' := h.imp id fun ⟨o, h⟩ => ⟨o, e _ _ h⟩
theorem On.ne {p X M : Addr} {D H H' : Hp} (h : On p X D) (w : Wd p D H) (e : Same H H') (n : H' M = none) : M ≠ X := by
  rcases h with rfl | ⟨o, h⟩
  · exact w.ne (e.free n)
  · exact (ne_of_none (e _ _ (w.s _ _ h)) n).symm
def TmE (K : PySem.W.Frag) (D : Hp) (k : Nat) (v : V) : Prop := ∃ x, Tm K D k v x
theorem TmE.same {K : PySem.W.Frag} {D D' : Hp} {k : Nat} {v : V} (e : Same D D') : TmE K D k v → TmE K D' k v := fun ⟨x, h⟩ => ⟨x, h.same e⟩
theorem TmE.up {K : PySem.W.Frag} {D : Hp} {j k : Nat} {v : V} (l : k ≤ j) : TmE K D k v → TmE K D j v := fun ⟨x, h⟩ => ⟨x, h.up l⟩
theorem tm_ints {K : PySem.W.Frag} {D : Hp} {a : Addr} {ns : List Int} (h : Sq K D a (ns.map V.int)) (l : ns.length ≤ 6) (b : ∀ n ∈ ns, n.natAbs < 2 ^ 30) : TmE K D 1 (.ref a) :=
  tm_seq h (by rw [List.length_map]; exact l) fun u hu => by
    obtain ⟨n, hn, rfl⟩ := List.mem_map.mp hu
    exact ⟨_, .int (b n hn)⟩
/-- what a point or a table is made of -/
def It (K : PySem.W.Frag) (D : Hp) (u : V) : Prop := (∃ n : Int, u = .int n ∧ n.natAbs < 2 ^ 30) ∨ ∃ (q : Addr) (ns : List Int), u = .ref q ∧ Sq K D q (ns.map V.int) ∧ ns.length = 3 ∧ ∀ n ∈ ns, n.natAbs < 2 ^ 30
theorem It.same {K : PySem.W.Frag} {D D' : Hp} {u : V} (e : Same D D') : It K D u → It K D' u := fun h => h.imp id fun ⟨q, ns, h1, h2, h3⟩ => ⟨q, ns, h1, h2.same e, h3⟩
theorem It.tm {K : PySem.W.Frag} {D : Hp} {u : V} (h : It K D u) : TmE K D 1 u := by
  rcases h with ⟨n, rfl, b⟩ | ⟨q, ns, rfl, h, l, b⟩
  · exact ⟨_, .int b⟩
  · exact tm_ints h (by omega) b
/-- xs[:i] + xs[j:] -/
theorem cut2 {K : PySem.W.Frag} {tn ta tb : TE} {σ : L2.St} {H : Hp} {Q : VK} {l : Addr} {xs : List V} {i j : Nat} (hn : ∀ H R, R (.ref l) H → tn σ H R) (ha : ∀ H R, R (.int (i : Nat)) H → ta σ H R) (hb : ∀ H R, R (.int (j : Nat)) H → tb σ H R)
    (h : H l = some (.lst xs)) (hl : xs.length < 1000) (q : ∀ H' L, Same H H' → H' L = none → Q (.ref L) (upd H' L (.lst (xs.take i ++ xs.drop j)))) :
    tOp rCat (tSl (rSlL K) tn tNoPart (tPart ta)) (tSl (rSlL K) tn (tPart tb) tNoPart) σ H Q := by
  refine hn _ _ (ha _ _ ⟨_, rfl, l, xs, rfl, SqL.mk h, fun p1 hp1 => ?_⟩)
  rw [cut_lo]
  have s1 := same_new (o := .lst (xs.take i)) hp1
  have z1 : (upd H p1 (.lst (xs.take i))) p1 = some (.lst (xs.take i)) := upd_same
  revert s1 z1
  generalize upd H p1 (.lst (xs.take i)) = H1
  intro s1 z1
  have lt : (xs.take i).length ≤ xs.length := by rw [List.length_take]; exact Nat.min_le_right _ _
  refine hn _ _ (hb _ _ ⟨_, rfl, l, xs, rfl, SqL.mk (s1 _ _ h), fun p4 hp4 => ?_⟩)
  rw [cut_hi]
  have s4 := same_new (o := .lst (xs.drop j)) hp4
  refine ⟨p1, p4, _, _, rfl, rfl, s4 _ _ z1, upd_same, ?_, fun p5 hp5 => q _ _ (s1.trans s4) hp5⟩
  rw [List.length_drop, sizeLine_eq]
  omega
section
variable {P : Program} {w : World} {K : PySem.W.Frag} {mg : Str → Option Value} {base : Heap}
def sp_lbent (K : PySem.W.Frag) : Sp := fun vs H Q _ => ∃ (p l : Addr) (D : Hp) (us : List V), vs = [.ref p, .ref l] ∧ Wd p D H ∧ Sq K D l us ∧ us.length = 3 ∧ ∃ X, On p X D ∧ (∀ u ∈ us, It K (del D X) u) ∧ Gets p D (fun v D' => TmE K (del D' X) 3 v) Q
theorem sc_lbent : FnScope ["_law_pot_here", "_law_value", "_law_found", "_law_at", "_law_way", "_law_one"] ["_law_pot_here", "_law_value"] (defScope s_lbent) := ⟨rfl, rfl, rfl, by decide +kernel, rfl, by decide +kernel, by decide +kernel⟩
theorem ok_lbent {f f1 f2 : Addr} {fd fd1 fd2 : FuncData} (F : Fun K "_law_bent" "_law_bent" s_lbent f fd) (B : Blt mg)
    (Ddraw : Df K mg "_law_draw" s_draw ["_law_pot_here", "_law_many"] f1 fd1) (Gdraw : FnOk P w K mg base CX0 1 f1 fd1 ["_law_pot_here", "_law_many"] sp_draw)
    (Dpick : Df K mg "_law_pick" s_pick ["_law_pot_here", "_law_some"] f2 fd2) (Gpick : FnOk P w K mg base CX0 2 f2 fd2 ["_law_pot_here", "_law_some"] (sp_pick K)) :
    FnOk P w K mg base CX0 3 f fd ["_law_pot_here", "_law_value"] (sp_lbent K) := by
  refine F.ok sc_lbent (fun vs H Q E h => ?_) (fun cdv A outer s H vs Q E hr h => ?_)
  · obtain ⟨p, l, D, us, rfl, _⟩ := h
    rfl
  · obtain ⟨p, l, D, us, rfl, wd, hl, l3, X, on, hi, q⟩ := h
    have r1 : Room 1 _ := hr.mono (by decide)
    refine ⟨_, pss_cons (ps_par (i := 2) (j := 3) rfl sc_lbent.nd rfl rfl (by decide) rfl rfl (pa_cons (pe_callTy call_list_of (by rfl) B.list boot_tlist (pa_cons (pv 1) pa_nil)) (pa_cons (pdf Ddraw Gdraw r1 (pa_cons (pv 0) (pa_cons pe_int pa_nil))) pa_nil)) (by rfl))
      (pss_cons (ps_set (i := 4) sc_lbent.nd rfl (Or.inl rfl) (pdf Ddraw Gdraw r1 (pa_cons (pv 0) (pa_cons pe_int pa_nil))))
      (pss_cons (ps_if (pt_cmpR op_eq (pv 4) pe_int (nomark _)) (pss_one (ps_ret (pe_op op_cat (pe_slice sl_list (pv 2) po_none (po_some (pv 3))) (pe_slice sl_list (pv 2) (po_some (pe_op op_add (pv 3) pe_int)) po_none)))) pss_nil)
      (pss_cons (ps_if (pt_cmpR op_eq (pv 4) pe_int (nomark _)) (pss_one (ps_ret (pe_op op_cat (pv 2) (pe_slice sl_list (pv 2) po_none (po_some pe_int))))) pss_nil)
      (pss_cons (ps_if (pt_cmpR op_eq (pv 4) pe_int (nomark _)) (pss_one (ps_ret (pe_op op_cat (pe_op op_cat (pe_slice sl_list (pv 2) po_none (po_some (pv 3))) (pe_lst (pa_cons (pdf Dpick Gpick hr (pa_cons (pv 0) (pa_cons (pe_lst (pa_cons pe_non (pa_cons pe_bl (pa_cons pe_bl (pa_cons pe_str (pa_cons (pe_lst (pa_cons pe_int pa_nil)) (pa_cons (pe_tup (pa_cons pe_int (pa_cons pe_int (pa_cons pe_int pa_nil)))) (pa_cons pe_dnewK pa_nil)))))))) pa_nil))) pa_nil))) (pe_slice sl_list (pv 2) (po_some (pe_op op_add (pv 3) pe_int)) po_none)))) pss_nil)
      (pss_cons (ps_if (pt_cmpR op_eq (pv 4) pe_int (nomark _)) (pss_one (ps_ret (pe_lc (own := [("_law_one", 5)]) (g := gName 5) (tt := tYes) rfl sc_lbent.nd (pi_list (pv 2)) (blkOk_by (N := ["_law_pot_here", "_law_value", "_law_found", "_law_at", "_law_way", "_law_one"]) (sc := defScope s_lbent) (by decide +kernel)) (fun _ _ _ _ _ => pg_name (i := 5) sc_lbent.nd rfl (Or.inl rfl)) (fun _ _ _ _ _ => pts_nil) (fun _ _ _ _ _ => (pe_ifExp (pt_val (pe_callB (isiK (K := K) rfl) (by rfl) B.isinstance boot_isi (pa_cons (pv 5) (pa_cons (pty B.int boot_tint) pa_nil)))) pe_int (pe_callTy (listK (K := K) rfl) (by rfl) B.list boot_tlist (pa_cons (pv 5) pa_nil))))))) pss_nil)
      (pss_one (ps_ret (pe_ifExp (pt_cmpR op_eq (pv 4) pe_int (nomark _)) (pe_callTy call_tuple_of (by rfl) B.tuple boot_ttuple (pa_cons (pv 2) pa_nil)) (pe_revL (pv 2)))))))))), ?_⟩
    refine ⟨_, rfl, l, us, rfl, hl.same wd.s, fun L hL => ?_⟩
    obtain ⟨w0, s0, z0⟩ := wd.new (same_new hL) hL upd_same
    refine ⟨_, rfl, p, 3, _, rfl, w0, by decide, by decide, fun H1 d w1 d0 d1 => ⟨_, _, rfl, ?_⟩⟩
    obtain ⟨i, rfl⟩ := Int.eq_ofNat_of_zero_le d0
    refine ⟨_, rfl, p, 6, _, rfl, w1, by decide, by decide, fun H2 g w2 g0 g1 => ?_⟩
    clear d0 d1 w1 w0
    revert w2 z0
    have hi' : ∀ u ∈ us, It K (del (upd D L (.lst us)) X) u := fun u hu => (hi u hu).same (same_dd s0)
    have q' : Gets p (upd D L (.lst us)) (fun v D' => TmE K (del D' X) 3 v) Q := fun v D' H' s' w' r' => q v D' H' (s0.trans s') w' r'
    have on' := on.same s0
    revert hi' q' on'
    clear q hi hl wd s0 on
    generalize upd D L (.lst us) = D1
    intro hi q on z0 w2
    have h2 := w2.s _ _ z0
    have eqd : ∀ k : Int, decide (V.int g = V.int k) = decide (g = k) := fun k => by simp
    have fin : ∀ (vs : List V) (M : Addr) (H4 : Hp), (∀ u ∈ vs, u ∈ us) → vs.length ≤ 6 → Same H2 H4 → H4 M = none → Q (.ref M) (upd H4 M (.lst vs)) := fun vs M H4 m l s4 hM => by
      obtain ⟨w5, s5, h5⟩ := w2.new (s4.trans (same_new (o := .lst vs) hM)) (s4.free hM) upd_same
      exact q _ _ _ s5 w5 (tm_seq (k := 2) (.inl (SqL.mk ((del_ne (on.ne w2 s4 hM)).trans h5))) l fun u hu => ((hi u (m u hu)).same (same_dd s5)).tm.up (by decide))
    refine ⟨_, rfl, rfl, _, rfl, ?_⟩
    rw [eqd]
    by_cases g0' : g = 0
    · rw [decide_eq_true g0']
      refine iteT (cut2 (i := i) (j := i + 1) (fun H R r => ⟨_, rfl, r⟩) (fun H R r => ⟨_, rfl, r⟩) (fun H R r => ⟨_, rfl, _, _, rfl, rfl, r⟩) h2 (by omega) fun H4 M s4 hM => ?_)
      refine fin _ _ _ (fun u hu => ?_) ?_ s4 hM
      · rcases List.mem_append.mp hu with hu | hu
        · exact List.mem_of_mem_take hu
        · exact List.mem_of_mem_drop hu
      · rw [List.length_append, List.length_take, List.length_drop]
        omega
    rw [decide_eq_false g0']
    refine iteF ?_
    dsimp only [tNext]
    refine ⟨_, rfl, rfl, _, rfl, ?_⟩
    rw [eqd]
    by_cases g1' : g = 1
    · rw [decide_eq_true g1']
      refine iteT ⟨_, rfl, _, rfl, _, rfl, L, _, rfl, SqL.mk h2, fun p1 hp1 => ?_⟩
      have s1 := same_new (o := .lst (cutV us none (some (1 : Int)))) hp1
      refine ⟨L, p1, _, _, rfl, rfl, s1 _ _ h2, upd_same, ?_, fun M hM => ?_⟩
      · rw [show cutV us none (some (1 : Int)) = us.take 1 from cut_lo us 1, List.length_take, sizeLine_eq]
        omega
      rw [show cutV us none (some (1 : Int)) = us.take 1 from cut_lo us 1] at *
      refine fin _ _ _ (fun u hu => ?_) ?_ s1 hM
      · rcases List.mem_append.mp hu with hu | hu
        · exact hu
        · exact List.mem_of_mem_take hu
      · rw [List.length_append, List.length_take]
        omega
    rw [decide_eq_false g1']
    refine iteF ?_
    dsimp only [tNext]
    refine ⟨_, rfl, rfl, _, rfl, ?_⟩
    rw [eqd]
    by_cases g2' : g = 2
    · rw [decide_eq_true g2']
      refine iteT ⟨_, rfl, _, rfl, _, rfl, L, us, rfl, SqL.mk h2, fun p1 hp1 => ?_⟩
      rw [cut_lo]
      obtain ⟨wA, sA, zA⟩ := w2.new (same_new (o := .lst (us.take i)) hp1) hp1 upd_same
      refine ⟨_, rfl, by show 1 ≤ sizeLine; decide, fun a ha => ?_⟩
      obtain ⟨wB, sB, zB⟩ := wA.new (same_new (o := .lst [.int 1]) ha) ha upd_same
      refine ⟨by show 3 ≤ sizeLine; decide, fun b hb => ?_⟩
      obtain ⟨wC, sC, zC⟩ := wB.new (same_new (o := .tup [.int 1, .int 0, .int 0]) hb) hb upd_same
      refine fun c hc => ?_
      obtain ⟨wD, sD, zD⟩ := wC.new (same_new (o := .dK []) hc) hc upd_same
      refine ⟨by show 7 ≤ sizeLine; decide, fun e he => ?_⟩
      obtain ⟨wE, sE, zE⟩ := wD.new (same_new (o := .lst [.non, .bl true, .bl false, .str "1", .ref a, .ref b, .ref c]) he) he upd_same
      refine ⟨p, e, _, _, rfl, wE, SqL.mk zE, by show 1 ≤ 7; decide, by show 7 < 1000000; decide, fun H6 v w6 hv => ?_⟩
      have sBE := (sC.trans sD).trans sE
      have s0E := ((sA.trans sB).trans sBE)
      obtain ⟨D6, w6, tv, s0E, zA', z0', hi'⟩ : ∃ D6, Wd p D6 H6 ∧ TmE K (del D6 X) 1 v ∧ Same D1 D6 ∧ D6 p1 = some (.lst (us.take i)) ∧ D6 L = some (.lst us) ∧ ∀ u ∈ us, TmE K (del D6 X) 1 u := by
        refine ⟨_, w6, ?_, s0E, (sB.trans sBE) _ _ zA, s0E _ _ z0, fun u hu => ((hi u hu).same (same_dd s0E)).tm⟩
        simp only [List.mem_cons, List.not_mem_nil, or_false] at hv
        rcases hv with rfl | rfl | rfl | rfl | rfl | rfl | rfl
        · exact ⟨_, .non⟩
        · exact ⟨_, .bl⟩
        · exact ⟨_, .bl⟩
        · exact ⟨_, .str (by decide +kernel)⟩
        · exact tm_ints (ns := [1]) (.inl (SqL.mk ((del_ne (on.ne w2 ((same_new hp1)) ha)).trans (sBE _ _ zB)))) (by decide) (fun n hn => by simp only [List.mem_cons, List.not_mem_nil, or_false] at hn; subst hn; decide)
        · exact tm_ints (ns := [1, 0, 0]) (.inr (SqT.mk ((del_ne (on.ne w2 ((same_new hp1).trans (same_new ha)) hb)).trans ((sD.trans sE) _ _ zC)))) (by decide) (fun n hn => by simp only [List.mem_cons, List.not_mem_nil, or_false] at hn; rcases hn with rfl | rfl | rfl <;> decide)
        · exact ⟨_, .emp ((del_ne (on.ne w2 (((same_new hp1).trans (same_new ha)).trans (same_new hb)) hc)).trans (sE _ _ zD))⟩
      refine ⟨by show 1 ≤ sizeLine; decide, fun p2 hp2 => ?_⟩
      have s7 := same_new (o := .lst [v]) hp2
      have z7 : (upd H6 p2 (.lst [v])) p2 = some (.lst [v]) := upd_same
      have lt : (us.take i).length ≤ us.length := by rw [List.length_take]; exact Nat.min_le_right _ _
      refine ⟨p1, p2, _, _, rfl, rfl, s7 _ _ (w6.s _ _ zA'), z7, by rw [List.length_singleton, sizeLine_eq]; omega, fun p3 hp3 => ?_⟩
      have s8 := same_new (o := .lst (us.take i ++ [v])) hp3
      refine ⟨_, rfl, _, rfl, _, _, rfl, rfl, _, rfl, L, us, rfl, SqL.mk (s8 _ _ (s7 _ _ (w6.s _ _ z0'))), fun p4 hp4 => ?_⟩
      have ec : cutV us (some ((i : Nat) + 1)) none = us.drop (i + 1) := cut_hi us (i + 1)
      rw [ec]
      have s9 := same_new (o := .lst (us.drop (i + 1))) hp4
      refine ⟨p3, p4, _, _, rfl, rfl, s9 _ _ upd_same, upd_same, by rw [List.length_append, List.length_singleton, List.length_drop, sizeLine_eq]; omega, fun M hM => ?_⟩
      have sf := (s7.trans s8).trans s9
      obtain ⟨w10, s10, h10⟩ := w6.new (sf.trans (same_new (o := .lst (us.take i ++ [v] ++ us.drop (i + 1))) hM)) (sf.free hM) upd_same
      refine q _ _ _ (s0E.trans s10) w10 (tm_seq (k := 2) (.inl (SqL.mk ((del_ne ((on.same s0E).ne w6 sf hM)).trans h10))) ?_ fun u hu => ?_)
      · rw [List.length_append, List.length_append, List.length_singleton, List.length_drop]
        omega
      · have t1 : TmE K (del D6 X) 1 u := by
          rcases List.mem_append.mp hu with hu | hu
          · rcases List.mem_append.mp hu with hu | hu
            · exact hi' u (List.mem_of_mem_take hu)
            · rw [List.mem_singleton.mp hu]
              exact tv
          · exact hi' u (List.mem_of_mem_drop hu)
        exact (t1.same (same_dd s10)).up (by decide)
    rw [decide_eq_false g2']
    refine iteF ?_
    dsimp only [tNext]
    refine ⟨_, rfl, rfl, _, rfl, ?_⟩
    rw [eqd]
    by_cases g3' : g = 3
    · rw [decide_eq_true g3']
      refine iteT ⟨_, rfl, L, rfl, ⟨_, SqL.mk h2⟩, fun D2 hD2 => lc_list (xs := us) (fun k H4 => ∃ (D4 : Hp) (acc : List V), Same D1 D4 ∧ D4 D2 = none ∧ Wd p D4 H4 ∧ H4 D2 = some (.lst acc) ∧ acc.length = k ∧ ∀ u ∈ acc, TmE K (del D4 X) 1 u) ⟨D1, [], Same.refl _, w2.s.free hD2, w2.over (w2.s.free hD2) (w2.ne hD2), upd_same, rfl, (fun _ z => nomatch z)⟩ (fun k H4 _ h => ?_) (fun k u H4 hk h => ?_) (fun H4 h => ?_)⟩
      · obtain ⟨D4, acc, s4, n4, w4, h4, l4, t4⟩ := h
        exact SqL.mk (w4.s _ _ (s4 _ _ z0))
      · obtain ⟨D4, acc, s4, n4, w4, h4, l4, t4⟩ := h
        have Dp := w2.ne hD2
        have hk3 : k < 3 := by
          have := (List.getElem?_eq_some_iff.mp hk).1
          omega
        refine ⟨rfl, yes_ite ?_⟩
        rcases (hi u (List.mem_of_getElem? hk)).same (same_dd s4) with ⟨n, rfl, nb⟩ | ⟨r, ns, rfl, hr2, rl, rb⟩
        · refine ⟨_, rfl, _, _, _, _, true, rfl, .ty "int", .base (.int n), kit_ii, true, rfl, iteT ?_⟩
          refine ⟨acc, h4, by rw [sizeLine_eq]; omega, D4, acc ++ [.int 0], s4, n4, w4.over n4 Dp, upd_same, by rw [List.length_append, l4]; rfl, fun x hx => ?_⟩
          rcases List.mem_append.mp hx with hx | hx
          · exact t4 x hx
          · rw [List.mem_singleton.mp hx]
            exact ⟨_, .int (by decide)⟩
        · have hr4 := (hr2.same del_sub).same w4.s
          have tyx : ∃ t, TyX K H4 (.ref r) t ∧ PySem.W.kitOne K t (.type "int") = some false := hr4.elim (fun h => ⟨_, ty_l h, kit_li⟩) (fun h => ⟨_, ty_t h, kit_ti⟩)
          obtain ⟨ty, ht, kt⟩ := tyx
          refine ⟨_, rfl, _, _, _, _, false, rfl, .ty "int", ht, kt, false, rfl, iteF ?_⟩
          refine ⟨_, rfl, r, _, rfl, hr4, fun M hM => ?_⟩
          have MD : M ≠ D2 := (ne_of_none h4 hM).symm
          obtain ⟨w5, s5, h5⟩ := w4.new (same_new (o := .lst (ns.map V.int)) hM) hM upd_same
          have n5 : (upd D4 M (.lst (ns.map V.int))) D2 = none := by rw [upd_ne MD.symm]; exact n4
          refine ⟨acc, (same_new hM) _ _ h4, by rw [sizeLine_eq]; omega, _, acc ++ [.ref M], s4.trans s5, n5, w5.over n5 Dp, upd_same, by rw [List.length_append, l4]; rfl, fun x hx => ?_⟩
          rcases List.mem_append.mp hx with hx | hx
          · exact (t4 x hx).same (same_dd s5)
          · rw [List.mem_singleton.mp hx]
            exact tm_ints (.inl (SqL.mk ((del_ne ((on.same s4).ne w4 (Same.refl _) hM)).trans h5))) (by omega) rb
      · obtain ⟨D4, acc, s4, n4, w4, h4, l4, t4⟩ := h
        have w5 := w4.got n4 (w2.ne hD2) h4
        exact q _ _ _ (s4.trans (same_new n4)) w5 (tm_seq (k := 2) (.inl (SqL.mk ((del_ne (on.ne w2 (Same.refl _) hD2)).trans upd_same))) (by omega) fun u hu => ((t4 u hu).same (same_dd (same_new n4))).up (by decide))
    rw [decide_eq_false g3']
    refine iteF ?_
    dsimp only [tNext]
    refine ⟨_, rfl, rfl, _, rfl, ?_⟩
    refine ite2 (fun _ => ?_) (fun _ => ?_)
    · refine ⟨_, rfl, L, us, rfl, .inl ⟨SqL.mk h2, fun t ht => ?_⟩⟩
      obtain ⟨w5, s5, h5⟩ := w2.new (same_new (o := .tup us) ht) ht upd_same
      exact q _ _ _ s5 w5 (tm_seq (k := 2) (.inr (SqT.mk ((del_ne (on.ne w2 (Same.refl _) ht)).trans h5))) (by omega) fun u hu => ((hi u hu).same (same_dd s5)).tm.up (by decide))
    · refine ⟨_, rfl, L, us, rfl, SqL.mk h2, fun M hM => ?_⟩
      exact fin _ _ _ (fun u hu => List.mem_reverse.mp hu) (by rw [List.length_reverse]; omega) (Same.refl _) hM
end
end G0

namespace G0
open PySem PySem.Spec PyProof.Rows L2
abbrev s_rbent : Stmt := top 38
theorem atI_ex {xs : List V} (l : xs.length = 3) {k : Int} (h1 : -3 ≤ k) (h2 : k < 3) : ∃ v, v ∈ xs ∧ atI xs k = some v := by
  match xs, l with
  | [a, b, c], _ =>
    have : k = -3 ∨ k = -2 ∨ k = -1 ∨ k = 0 ∨ k = 1 ∨ k = 2 := by omega
    rcases this with rfl | rfl | rfl | rfl | rfl | rfl
    · exact ⟨a, by simp, rfl⟩
    · exact ⟨b, by simp, rfl⟩
    · exact ⟨c, by simp, rfl⟩
    · exact ⟨a, by simp, rfl⟩
    · exact ⟨b, by simp, rfl⟩
    · exact ⟨c, by simp, rfl⟩
theorem sq_del {K : PySem.W.Frag} {D : Hp} {X a : Addr} {xs : List V} (n : a ≠ X) (h : Sq K D a xs) : Sq K (del D X) a xs := by
  have e : del D X a = D a := del_ne n
  rcases h with h | h
  · rcases h with (h | ⟨o, h⟩) | h
    · exact .inl (.inl (.inl (e.trans h)))
    · exact .inl (.inl (.inr ⟨o, e.trans h⟩))
    · exact .inl (.inr h)
  · rcases h with (h | ⟨o, h⟩) | h
    · exact .inr (.inl (.inl (e.trans h)))
    · exact .inr (.inl (.inr ⟨o, e.trans h⟩))
    · exact .inr (.inr h)
section
variable {P : Program} {w : World} {K : PySem.W.Frag} {mg : Str → Option Value} {base : Heap}
def sp_rbent (K : PySem.W.Frag) : Sp := fun vs H Q _ => ∃ (p l : Addr) (D : Hp), vs = [.ref p, .ref l] ∧ Wd p D H ∧ Rows (.ref l) D ∧ Gets p D (fun v D' => TmE K D' 4 v) Q
theorem sc_rbent : FnScope ["_law_pot_here", "_law_rows", "_law_found", "_law_at", "_law_row", "_law_way", "_law_one", "_law_two"] ["_law_pot_here", "_law_rows"] (defScope s_rbent) := ⟨rfl, rfl, rfl, by decide +kernel, rfl, by decide +kernel, by decide +kernel⟩
theorem ok_rbent {f f1 f2 f3 : Addr} {fd fd1 fd2 fd3 : FuncData} (F : Fun K "_law_rows_bent" "_law_rows_bent" s_rbent f fd) (B : Blt mg) (nZ : mg "zip" = none)
    (Ddraw : Df K mg "_law_draw" s_draw ["_law_pot_here", "_law_many"] f1 fd1) (Gdraw : FnOk P w K mg base CX0 1 f1 fd1 ["_law_pot_here", "_law_many"] sp_draw)
    (Dgiven : Df K mg "_law_given" s_given ["_law_pot_here", "_law_point_here"] f2 fd2) (Ggiven : FnOk P w K mg base CX0 2 f2 fd2 ["_law_pot_here", "_law_point_here"] (sp_given K))
    (Dbent : Df K mg "_law_bent" s_lbent ["_law_pot_here", "_law_value"] f3 fd3) (Gbent : FnOk P w K mg base CX0 3 f3 fd3 ["_law_pot_here", "_law_value"] (sp_lbent K)) :
    FnOk P w K mg base CX0 4 f fd ["_law_pot_here", "_law_rows"] (sp_rbent K) := by
  refine F.ok sc_rbent (fun vs H Q E h => ?_) (fun cdv A outer s H vs Q E hr h => ?_)
  · obtain ⟨p, l, D, rfl, _⟩ := h
    rfl
  · obtain ⟨p, l, D, rfl, wd, hrows, q⟩ := h
    have r1 : Room 1 _ := hr.mono (by decide)
    have r2 : Room 2 _ := hr.mono (by decide)
    refine ⟨_, pss_cons (ps_par (i := 2) (j := 3) rfl sc_rbent.nd rfl rfl (by decide) rfl rfl (pa_cons (pe_lc (own := [("_law_row", 4)]) (g := gName 4) (tt := tYes) rfl sc_rbent.nd (pi_list (pv 1)) (blkOk_by (N := ["_law_pot_here", "_law_rows", "_law_found", "_law_at", "_law_row", "_law_way", "_law_one", "_law_two"]) (sc := defScope s_rbent) (by decide +kernel)) (fun _ _ _ _ _ => pg_name (i := 4) sc_rbent.nd rfl (Or.inl rfl)) (fun _ _ _ _ _ => pts_nil) (fun _ _ _ _ _ => (pdf Dgiven Ggiven r2 (pa_cons (pv 0) (pa_cons (pv 4) pa_nil))))) (pa_cons (pdf Ddraw Gdraw r1 (pa_cons (pv 0) (pa_cons pe_int pa_nil))) pa_nil)) (by rfl))
      (pss_cons (ps_set (i := 5) sc_rbent.nd rfl (Or.inl rfl) (pdf Ddraw Gdraw r1 (pa_cons (pv 0) (pa_cons pe_int pa_nil))))
      (pss_cons (ps_if (pt_cmpR op_eq (pv 5) pe_int (nomark _)) (pss_one (ps_asg (pdf Dbent Gbent hr (pa_cons (pv 0) (pa_cons (pe_ix ix_list (pv 1) (pv 3) (fun _ _ => rfl)) pa_nil))) (pg_sub (pv 2) (pv 3) set_list))) (pss_one (ps_if (pt_cmpR op_eq (pv 5) pe_int (nomark _)) (pss_one (ps_asg (pe_ix ix_list (pv 2) (pe_op op_sub (pv 3) pe_int) (fun _ _ => rfl)) (pg_sub (pv 2) (pv 3) set_list))) (pss_one (ps_if (pt_cmpR op_eq (pv 5) pe_int (nomark _)) (pss_one (ps_asg (pe_lc (own := [("_law_one", 6), ("_law_two", 7)]) (g := (gTup K 2 (gCons (gName 6) (gCons (gName 7) gNil)))) (tt := tYes) rfl sc_rbent.nd (pi_Z true true (by rfl) nZ (pa_cons (pe_ix ix_list (pv 1) (pe_op op_sub (pv 3) pe_int) (fun _ _ => rfl)) (pa_cons (pe_ix ix_list (pv 1) (pe_op op_sub (pv 3) pe_int) (fun _ _ => rfl)) pa_nil))) (blkOk_by (N := ["_law_pot_here", "_law_rows", "_law_found", "_law_at", "_law_row", "_law_way", "_law_one", "_law_two"]) (sc := defScope s_rbent) (by decide +kernel)) (fun _ _ _ _ _ => pg_tup rfl (pgs_cons (pg_name (i := 6) sc_rbent.nd rfl (Or.inl rfl)) (pgs_cons (pg_name (i := 7) sc_rbent.nd rfl (Or.inl rfl)) pgs_nil))) (fun _ _ _ _ _ => pts_nil) (fun _ _ _ _ _ => (pe_op op_add (pv 6) (pv 7)))) (pg_sub (pv 2) (pv 3) set_list))) (pss_one (ps_if (pt_cmpR op_eq (pv 5) pe_int (nomark _)) (pss_one (ps_asg (pe_lst (pa_cons pe_int (pa_cons pe_int (pa_cons pe_int pa_nil)))) (pg_sub (pv 2) (pv 3) set_list))) (pss_one (ps_if (pt_cmpR op_eq (pv 5) pe_int (nomark _)) (pss_one (ps_ret (pdf Dbent Gbent hr (pa_cons (pv 0) (pa_cons (pv 2) pa_nil))))) pss_nil)))))))))
      (pss_one (ps_ret (pe_ifExp (pt_cmpR op_eq (pdf Ddraw Gdraw r1 (pa_cons (pv 0) (pa_cons pe_int pa_nil))) pe_int (nomark _)) (pv 2) (pe_callTy call_tuple_of (by rfl) B.tuple boot_ttuple (pa_cons (pv 2) pa_nil))))))), ?_⟩
    obtain ⟨l0, q1, q2, q3, e0, hl, r1', r2', r3'⟩ := hrows
    cases e0
    have hlH := wd.s _ _ hl
    have rows : ∀ u ∈ [V.ref q1, .ref q2, .ref q3], ∃ r a b c, u = .ref r ∧ D r = some (.lst ([a, b, c].map V.int)) ∧ ∀ n ∈ [a, b, c], -20 ≤ n ∧ n ≤ 20 := by
      intro u hu
      simp only [List.mem_cons, List.not_mem_nil, or_false] at hu
      rcases hu with rfl | rfl | rfl
      · obtain ⟨a, b, c, h1, h2⟩ := r1'
        exact ⟨_, a, b, c, rfl, h1, h2⟩
      · obtain ⟨a, b, c, h1, h2⟩ := r2'
        exact ⟨_, a, b, c, rfl, h1, h2⟩
      · obtain ⟨a, b, c, h1, h2⟩ := r3'
        exact ⟨_, a, b, c, rfl, h1, h2⟩
    have xl : [V.ref q1, .ref q2, .ref q3].length = 3 := rfl
    clear r1' r2' r3'
    revert rows xl hl hlH
    generalize [V.ref q1, .ref q2, .ref q3] = xs
    intro hl hlH rows xl
    refine ⟨_, rfl, l, rfl, ⟨_, SqL.mk hlH⟩, fun L hL => ?_⟩
    have L0 := wd.s.free hL
    have Lp := wd.ne hL
    refine lc_list (xs := xs) (fun k H4 => ∃ (D4 : Hp) (acc : List V), Same D D4 ∧ D4 L = none ∧ Wd p D4 H4 ∧ H4 L = some (.lst acc) ∧ acc.length = k ∧ ∀ u ∈ acc, It K D4 u) ⟨D, [], Same.refl _, L0, wd.over L0 Lp, upd_same, rfl, (fun _ z => nomatch z)⟩ (fun k H4 _ h => ?_) (fun k u H4 hk h => ?_) (fun H4 h => ?_)
    · obtain ⟨D4, acc, s4, n4, w4, h4, l4, t4⟩ := h
      exact SqL.mk (w4.s _ _ (s4 _ _ hl))
    · obtain ⟨D4, acc, s4, n4, w4, h4, l4, t4⟩ := h
      obtain ⟨r, a, b, c, rfl, hr, hb⟩ := rows u (List.mem_of_getElem? hk)
      have hk3 : k < 3 := by
        have := (List.getElem?_eq_some_iff.mp hk).1
        omega
      refine ⟨rfl, yes_ite ?_⟩
      have s4' := s4.trans (same_new (o := .lst acc) n4)
      refine ⟨_, rfl, _, rfl, p, r, _, _, rfl, w4.got n4 Lp h4, SqL.mk (s4' _ _ hr), fun v D5 H5 s5 w5 hv => ?_⟩
      obtain ⟨z, rfl, hz, zn⟩ := hv
      have zL : z ≠ L := fun e => by
        rw [e, upd_same] at zn
        cases zn
      have h5 : H5 L = some (.lst acc) := w5.s _ _ (s5 _ _ upd_same)
      have s45 := (same_new (o := .lst acc) n4).trans s5
      refine ⟨acc, h5, by rw [sizeLine_eq]; omega, G0.del D5 L, acc ++ [.ref z], same_del L0 (s4.trans s45), del_at, w5.del.over del_at Lp, upd_same, by rw [List.length_append, l4]; rfl, fun x hx => ?_⟩
      rcases List.mem_append.mp hx with hx | hx
      · exact (t4 x hx).same (same_del n4 s45)
      · rw [List.mem_singleton.mp hx]
        refine .inr ⟨z, [a, b, c], rfl, sq_del zL hz, rfl, fun n hn => ?_⟩
        have := hb n hn
        exact Nat.lt_of_le_of_lt (show n.natAbs ≤ 20 by omega) (by decide)
    obtain ⟨D4, acc, s4, n4, w4, h4, l4, t4⟩ := h
    rw [xl] at l4
    refine ⟨_, rfl, p, 3, _, rfl, w4.got n4 Lp h4, by decide, by decide, fun H5 d w5 d0 d1 => ⟨_, _, rfl, ?_⟩⟩
    obtain ⟨i, rfl⟩ := Int.eq_ofNat_of_zero_le d0
    refine ⟨_, rfl, p, 6, _, rfl, w5, by decide, by decide, fun H6 g w6 g0 g1 => ?_⟩
    have sL := same_new (o := .lst acc) n4
    have h6 : H6 L = some (.lst acc) := w6.s _ _ upd_same
    have rows4 : ∀ u ∈ xs, ∃ r a b c, u = .ref r ∧ H6 r = some (.lst ([a, b, c].map V.int)) ∧ ∀ n ∈ [a, b, c], -20 ≤ n ∧ n ≤ 20 := fun u hu => by
      obtain ⟨r, a, b, c, e, h1, h2⟩ := rows u hu
      exact ⟨r, a, b, c, e, w6.s _ _ (sL _ _ (s4 _ _ h1)), h2⟩
    have hl6 := w6.s _ _ (sL _ _ (s4 _ _ hl))
    clear w4 h4 w5 hL hlH wd
    have eqd : ∀ k : Int, decide (V.int g = V.int k) = decide (g = k) := fun k => by simp
    have ix : ixN acc.length (i : Nat) = some i := by
      unfold ixN
      rw [if_pos (by omega), if_pos (by omega)]
      rfl
    unfold gName
    dsimp only
    refine seq_join (fun σ H' => ∃ (D5 : Hp) (acc5 : List V), σ = [some (.ref p), some (.ref l), some (.ref L), some (.int (i : Nat)), none, some (.int g), none, none] ∧ Same D D5 ∧ D5 L = none ∧ Wd p D5 H' ∧ H' L = some (.lst acc5) ∧ acc5.length = 3 ∧ ∀ u ∈ acc5, TmE K D5 3 u) ?_ ?_
    · intro N hN
      have put : ∀ (D7 H7 : Hp) (v : V), Same (upd D4 L (.lst acc)) D7 → Wd p D7 H7 → TmE K (del D7 L) 3 v → N [some (.ref p), some (.ref l), some (.ref L), some (.int (i : Nat)), none, some (.int g), none, none] (upd H7 L (.lst (acc.set i v))) := fun D7 H7 v s7 w7 tv => by
        refine hN _ _ ⟨G0.del D7 L, acc.set i v, rfl, same_del L0 (s4.trans (sL.trans s7)), del_at, w7.del.over del_at Lp, upd_same, by rw [List.length_set]; exact l4, fun u hu => ?_⟩
        rcases List.mem_or_eq_of_mem_set hu with hu | rfl
        · exact ((t4 u hu).same (same_del n4 (sL.trans s7))).tm.up (by decide)
        · exact tv
      refine ⟨_, rfl, rfl, _, rfl, ?_⟩
      rw [eqd]
      by_cases g0' : g = 0
      · rw [decide_eq_true g0']
        obtain ⟨u, hu, au⟩ := atI_ex (xs := xs) xl (k := (i : Int)) (by omega) (by omega)
        obtain ⟨r, a, b, c, rfl, hr, hb⟩ := rows u hu
        refine iteT ⟨_, rfl, _, rfl, _, rfl, l, _, _, _, rfl, rfl, SqL.mk hl6, au, p, r, _, _, rfl, w6, .inl (SqL.mk ((s4.trans sL) _ _ hr)), rfl, L, .inr ⟨_, upd_same⟩, fun u hu => ?_, fun v D7 H7 s7 w7 hv => ?_⟩
        · obtain ⟨n, hn, rfl⟩ := List.mem_map.mp hu
          have := hb n hn
          exact .inl ⟨n, rfl, Nat.lt_of_le_of_lt (show n.natAbs ≤ 20 by omega) (by decide)⟩
        · exact ⟨_, rfl, _, rfl, L, acc, _, i, rfl, rfl, w7.s _ _ (s7 _ _ upd_same), ix, put _ _ _ s7 w7 hv⟩
      rw [decide_eq_false g0']
      refine iteF ⟨_, rfl, rfl, _, rfl, ?_⟩
      rw [eqd]
      by_cases g1' : g = 1
      · rw [decide_eq_true g1']
        obtain ⟨u, hu, au⟩ := atI_ex (xs := acc) l4 (k := (i : Int) - 1) (by omega) (by omega)
        refine iteT ⟨_, rfl, _, rfl, _, _, rfl, rfl, L, _, _, _, rfl, rfl, SqL.mk h6, au, _, rfl, _, rfl, L, acc, _, i, rfl, rfl, h6, ix, put _ _ _ (Same.refl _) w6 ?_⟩
        exact ((t4 u hu).same (same_del n4 sL)).tm.up (by decide)
      rw [decide_eq_false g1']
      refine iteF ⟨_, rfl, rfl, _, rfl, ?_⟩
      rw [eqd]
      by_cases g2' : g = 2
      · rw [decide_eq_true g2']
        obtain ⟨u1, hu1, au1⟩ := atI_ex (xs := xs) xl (k := (i : Int) - 1) (by omega) (by omega)
        obtain ⟨u2, hu2, au2⟩ := atI_ex (xs := xs) xl (k := (i : Int) - 2) (by omega) (by omega)
        obtain ⟨r1, a1, b1, c1, rfl, hr1, hb1⟩ := rows4 u1 hu1
        obtain ⟨r2, a2, b2, c2, rfl, hr2, hb2⟩ := rows4 u2 hu2
        refine iteT ⟨_, rfl, _, rfl, _, _, rfl, rfl, l, _, _, _, rfl, rfl, SqL.mk hl6, au1, _, rfl, _, rfl, _, _, rfl, rfl, l, _, _, _, rfl, rfl, SqL.mk hl6, au2, r1, r2, _, _, rfl, SqL.mk hr1, SqL.mk hr2, fun M hM => ?_⟩
        have ML : M ≠ L := (ne_of_none h6 hM).symm
        refine lc_it (walk_Z (n := 3) (xs := [a1, b1, c1].map V.int) (ys := [a2, b2, c2].map V.int) rfl rfl) (fun k H7 => Same H6 H7 ∧ ∃ ms : List Int, H7 M = some (.lst (ms.map V.int)) ∧ ms.length = k ∧ ∀ m ∈ ms, m.natAbs ≤ 40) ⟨same_new hM, [], upd_same, rfl, (fun _ z => nomatch z)⟩ (fun k H7 _ h => ⟨SqL.mk (h.1 _ _ hr1), SqL.mk (h.1 _ _ hr2)⟩) ?_ ?_
        · rintro k y H7 H8 hk ⟨s7, ms, h7, ml, mb⟩ ⟨Tp, z1, z2, rfl, nT, rfl, ez1, ez2⟩
          obtain ⟨n1, hn1, rfl⟩ := at_int ez1
          obtain ⟨n2, hn2, rfl⟩ := at_int ez2
          have sT : Same H7 (upd H7 Tp (.tup [.int n1, .int n2])) := same_new nT
          refine ⟨Tp, _, rfl, SqT.mk upd_same, rfl, _, _, rfl, _, _, rfl, rfl, rfl, yes_ite ?_⟩
          refine ⟨_, rfl, _, rfl, _, _, rfl, rfl, _, sT _ _ h7, by rw [List.length_map, sizeLine_eq]; omega, (s7.trans sT).put hM, ms ++ [n1 + n2], by rw [upd_same, List.map_append]; rfl, by rw [List.length_append, ml]; rfl, fun m hm => ?_⟩
          rcases List.mem_append.mp hm with hm | hm
          · exact mb m hm
          · rw [List.mem_singleton.mp hm]
            have e1 := hb1 n1 (List.mem_of_getElem? hn1)
            have e2 := hb2 n2 (List.mem_of_getElem? hn2)
            omega
        · rintro H7 ⟨s7, ms, h7, ml, mb⟩
          have n7 : (upd D4 L (.lst acc)) M = none := w6.s.free hM
          have w7 := (w6.pure s7).got n7 (w6.ne hM) h7
          refine ⟨_, rfl, _, rfl, L, acc, _, i, rfl, rfl, s7 _ _ h6, ix, put _ _ _ (same_new n7) w7 ?_⟩
          exact (tm_ints (.inl (SqL.mk ((del_ne ML).trans upd_same))) (by omega) (fun m hm => Nat.lt_of_le_of_lt (mb m hm) (by decide))).up (by decide)
      rw [decide_eq_false g2']
      refine iteF ⟨_, rfl, rfl, _, rfl, ?_⟩
      rw [eqd]
      by_cases g3' : g = 3
      · rw [decide_eq_true g3']
        refine iteT ⟨by show 3 ≤ sizeLine; decide, fun M hM => ?_⟩
        obtain ⟨w7, s7, h7⟩ := w6.new (same_new (o := .lst [.int 0, .int 0, .int 0]) hM) hM upd_same
        have ML : M ≠ L := (ne_of_none h6 hM).symm
        refine ⟨_, rfl, _, rfl, L, acc, _, i, rfl, rfl, (same_new hM) _ _ h6, ix, put _ _ _ s7 w7 ?_⟩
        exact (tm_ints (ns := [0, 0, 0]) (.inl (SqL.mk ((del_ne ML).trans h7))) (by decide) (fun n hn => by simp only [List.mem_cons, List.not_mem_nil, or_false] at hn; rcases hn with rfl | rfl | rfl <;> decide)).up (by decide)
      rw [decide_eq_false g3']
      refine iteF ⟨_, rfl, rfl, _, rfl, ?_⟩
      rw [eqd]
      by_cases g4' : g = 4
      · rw [decide_eq_true g4']
        refine iteT ⟨_, rfl, _, rfl, p, L, _, acc, rfl, w6, .inl (SqL.mk upd_same), l4, p, .inl rfl, fun u hu => (t4 u hu).same (sL.trans (same_del w6.n (Same.refl _))), fun v D7 H7 s7 w7 hv => ?_⟩
        exact q _ _ _ (s4.trans (sL.trans s7)) w7 ((hv.same del_sub).up (by decide))
      · rw [decide_eq_false g4']
        exact iteF (hN _ _ ⟨D4, acc, rfl, s4, n4, w6.weak sL, h6, l4, fun u hu => (t4 u hu).tm.up (by decide)⟩)
    · rintro σ H7 ⟨D5, acc5, rfl, s5, n5, w5, h5, l5, t5⟩
      refine ⟨_, rfl, p, 2, _, rfl, w5.got n5 Lp h5, by decide, by decide, fun H8 d w8 _ _ => ⟨rfl, _, rfl, ?_⟩⟩
      have s6 := same_new (o := .lst acc5) n5
      refine ite2 (fun _ => ?_) (fun _ => ?_)
      · exact ⟨_, rfl, q _ _ _ (s5.trans s6) w8 (tm_seq (k := 3) (.inl (SqL.mk upd_same)) (by omega) fun u hu => (t5 u hu).same s6)⟩
      · refine ⟨_, rfl, L, acc5, rfl, .inl ⟨SqL.mk (w8.s _ _ upd_same), fun t ht => ?_⟩⟩
        obtain ⟨w9, s9, h9⟩ := w8.new (same_new (o := .tup acc5) ht) ht upd_same
        exact q _ _ _ (s5.trans (s6.trans s9)) w9 (tm_seq (k := 3) (.inr (SqT.mk h9)) (by omega) fun u hu => (t5 u hu).same (s6.trans s9))
end
end G0

namespace G0
open PySem PySem.Spec PyProof.Rows L2
abbrev s_Spots_repr : Stmt := inClass s_Spots 3
/-- repr(x), x an instance with the text's own __repr__ (where no repr is under way) -/
structure ReprOwn (K : PySem.W.Frag) (C f : Addr) : Prop where
  at_ : PySem.W.findIn K (.ref C) "__repr__" = some (some (.ref f))
  fn : PySem.W.isFn K (.ref f) = true
theorem call_reprOwn {X : Cx} {k : Nat} {C f : Addr} {fd : FuncData} {ps : List Str} {sp : Sp} (F : FnG X.prog X.w X.K X.mg X.base k f fd ps sp) (own : ReprOwn X.K C f) (gd : X.A.guards = some []) (room : Room (k + 1) X.A) (bn : Binds X.K fd ps []) :
    CallR X (.builtin "repr") (fun xs H Q => ∃ a dx fs, xs = [.ref a] ∧ H a = some (.ins C dx fs) ∧ sp xs H (fun v H' => ∃ z : Str, v = .str z ∧ Q (.str z) H') E0) := by
  intro pins s σ H xs us Q J rv want
  obtain ⟨a, dx, fs, rfl, ha, want⟩ := want
  obtain ⟨u, rfl, ru⟩ := vals1 rv
  cases ru
  obtain ⟨mA, O, _⟩ := ins_get J.hok ha
  obtain ⟨od, I, _⟩ := O.look
  obtain ⟨m, hF⟩ := J.fr
  have un := room.un
  refine PySem.W.repr_K (by show X.A.units + 1 < cLine; omega) hF J.ok.mod.kin I own.at_ own.fn ?_
  have hl := F.len _ _ _ _ want
  have bnd : BindsTo s fd ⟨[.ref a], []⟩ (ps.zip [.ref a]) := by
    have := bn s [.ref a] J.kIn (by simpa using hl)
    simpa using this
  refine wpAny_call (codeAny_mono (F.run X.A.in1 X.stack s H ⟨[.ref a], []⟩ [.ref a] [.ref a] _ E0 gd room.in1 J.env0.in1 bnd (.cons rfl .nil) want) fun res s2 got => ?_)
  match res, got with
  | .error _, got => exact got.elim
  | .ok .next, got => exact got.elim
  | .ok .brk, got => exact got.elim
  | .ok .cont, got => exact got.elim
  | .ok (.ret w), got =>
    obtain ⟨v2, H2, J2, rv, z, rfl, q2⟩ := J.after got
    obtain ⟨t, rfl⟩ := (show ∃ t, w = Value.str z t from rv)
    exact ⟨.str z, H2, J2, ⟨t, rfl⟩, q2⟩
/-- told points as Spots keep them -/
structure Good (ts : List (List Int)) : Prop where
  one : 1 ≤ ts.length
  most : ts.length ≤ 24
  nd : ts.Nodup
  len : ∀ t ∈ ts, t.length = 3
  nz : ∀ t ∈ ts, ∃ n ∈ t, n ≠ 0
  sm : ∀ t ∈ ts, ∀ n ∈ t, n.natAbs < 2 ^ 30
  told : ∀ t ∈ ts, plainI t = t
theorem Good.map {ts : List (List Int)} (g : Good ts) : ts.map plainI = ts := by
  conv => rhs; rw [← List.map_id ts]
  exact List.map_congr_left fun t ht => g.told t ht
theorem fine_tups : ∀ us : List (List Int), (∀ t ∈ us, Sm t ∧ t.length ≤ 8) → FineAll (us.map dTup) 1 (15470 * us.length)
  | [], _ => .nil
  | t :: us, h => by
    have ih := fine_tups us fun u hu => h u (List.mem_cons_of_mem _ hu)
    obtain ⟨h1, h2⟩ := h t List.mem_cons_self
    have f := fine_ints h1
    have e := FineAll.cons (d := dTup t) (dep := 1) (s1 := 1932 * t.length + 3) (by simp only [PyData.showable]; exact f.sh) (by simp only [PyData.hasDict]; exact f.nd) (by have := f.dep; simp only [PyData.depth]; omega) (by have := f.sz; simp only [szD]; omega) ih
    refine ⟨e.sh, e.nd, e.dep, Nat.le_trans e.sz ?_⟩
    rw [List.length_cons]
    omega
theorem Good.all {ts : List (List Int)} (g : Good ts) : FineAll (ts.map dTup) 1 (15470 * ts.length) :=
  fine_tups ts fun t ht => ⟨fun n hn => Nat.lt_trans (g.sm t ht n hn) (by decide +kernel), by rw [g.len t ht]; decide⟩
theorem Good.fine {ts : List (List Int)} (g : Good ts) : Fine (.list (ts.map dTup)) := .lst g.all (by decide) (by have := g.most; omega)
section
variable {P : Program} {w : World} {K : PySem.W.Frag} {mg : Str → Option Value} {base : Heap}
def shownS (ts : List (List Int)) : Str := (("Spots(" : String) : Str) ++ (PyData.list (ts.map dTup)).shown ++ ((")" : String) : Str)
theorem pe_fmtD {X : Cx} {k : Nat} {e : Expr} {te : TE} {pos : Pos} (gd : X.A.guards = some []) (hr : Room k X.A) (he : PE X e te) : PE X (.FormattedValue e (-1) none pos) (fun σ H Q => te σ H fun x H1 => ∃ (a : Addr) (d : PyData), x = .ref a ∧ Dp X.K H1 (.ref a) d ∧ Fine d ∧ Q (.str d.shown) H1) := by
  constructor
  intro pins s σ H Q J want
  refine wpAny_FormattedValue_plain (thn (he.run pins s σ H _ J want) ?_)
  rintro v s1 ⟨x, H1, J1, r1, a, d, rfl, dp, fd, q⟩
  cases r1
  obtain ⟨as, rd⟩ := Dp.reads J1 d _ _ dp rfl
  have un := hr.un
  have dep := fd.dep
  refine formatField_of_reads rd fd.sh (fun z => ?_) gd (by omega) (fun _ _ q => q) (fun h2 u tk kept => ?_) fd.fit
  · rw [fd.nd] at z
    cases z
  · exact ⟨.str d.shown, H1, J1.kept kept, ⟨_, rfl⟩, q⟩
def sp_repr (K : PySem.W.Frag) (C : Addr) : Sp := fun vs H Q _ => ∃ (x : Addr) (ts : List (List Int)), vs = [.ref x] ∧ SpotsAt K C H x ts ∧ Good ts ∧ Q (.str (shownS ts)) H
theorem sc_repr : FnScope ["self"] ["self"] (defScope s_Spots_repr) := ⟨rfl, rfl, rfl, by decide +kernel, rfl, by decide +kernel, by decide +kernel⟩
theorem str_empty (z : Str) : Str.empty ++ z = z := by
  cases z with
  | mk c =>
    show (⟨#[] ++ c⟩ : Str) = ⟨c⟩
    rw [Array.empty_append]
theorem ok_repr {f C : Addr} {fd : FuncData} (F : Fun K "__repr__" "Spots.__repr__" s_Spots_repr f fd) (T : SpTxt K mg C) : FnG P w K mg base 1 f fd ["self"] (sp_repr K C) := by
  refine F.okG sc_repr (fun vs H Q E h => ?_) (fun cdv A outer s H vs Q E gd hr h => ?_)
  · obtain ⟨x, ts, rfl, _⟩ := h
    rfl
  · obtain ⟨x, ts, rfl, ⟨dx, l, us, h1, h2, h3⟩, g, q⟩ := h
    refine ⟨_, pss_one (ps_ret (pe_joined (.cons pe_str (.cons (pe_fmtD gd hr (pe_fld (pv 0) rfl)) (.cons pe_str .nil))))), ?_⟩
    have z := shown_le _ g.fine.sh g.fine.nd
    have z2 := g.fine.sz
    have l1 : (((("Spots(" : String) : Str))).length = 6 := rfl
    have l2 : ((((")" : String) : Str))).length = 1 := rfl
    refine ⟨_, rfl, ?_, _, rfl, x, C, dx, _, _, rfl, h1, T.cl, T.nP, rfl, l, _, rfl, .lst (SqL.mk h2) h3, g.fine, _, rfl, ?_, _, rfl, ?_, ?_⟩
    · rw [str_empty, l1]
      decide
    · rw [str_empty, strLen_append, l1, sizeLine_eq]
      omega
    · rw [str_empty, strLen_append, strLen_append, l1, l2, sizeLine_eq]
      omega
    · show Q (.str (((Str.empty ++ (("Spots(" : String) : Str)) ++ (PyData.list (ts.map dTup)).shown) ++ ((")" : String) : Str))) H
      rw [str_empty]
      exact q
end
/-! ### Spots among the values -/
structure InsAny (K : PySem.W.Frag) (C : Addr) : Prop where
  cl : Cls K C
  ha : PySem.W.findIn K (.ref C) "__class__" = some (some (.builtin "object.__class__"))
  hn : PySem.W.specialIn K (.builtin "object.__class__") "__get__" = some (some (.builtin "getset_descriptor.__get__"))
  htk : PySem.W.takesIn K (.builtin "object.__class__") = some true
  hm : PySem.W.mroIn K C (.type "object") = some true
  ki : PySem.W.kitOne K (.ref C) (.type "int") = some false
  kb : PySem.W.kitOne K (.ref C) (.type "bool") = some false
  kl : PySem.W.kitOne K (.ref C) (.type "list") = some false
  kt : PySem.W.kitOne K (.ref C) (.type "tuple") = some false
theorem kit_own {K : PySem.W.Frag} {C : Addr} {T : String} (m : PySem.W.kitMeta T = true) (h : PySem.W.mroIn K C (.type T) = some false) : PySem.W.kitOne K (.ref C) (.type T) = some false := by
  unfold PySem.W.kitOne
  rw [if_neg (by intro e; simp at e)]
  unfold PySem.W.kitCls
  simp only [m]
  exact h
def OneSpot (K : PySem.W.Frag) (C : Addr) (H : Hp) (v : V) : Prop := ∃ a, v = .ref a ∧ SpotsAt K C H a [[1, 0, 0]]
theorem good_one : Good [[1, 0, 0]] := ⟨by decide, by decide, by decide, fun t h => by simp at h; rw [h]; rfl, fun t h => by simp at h; rw [h]; exact ⟨1, by simp, by decide⟩, fun t h n hn => by simp at h; subst h; simp at hn; rcases hn with rfl | rfl <;> decide, fun t h => by simp at h; subst h; decide⟩
/-- a value of the law's list: tame, or the one Spots -/
def Vv (K : PySem.W.Frag) (C : Addr) (H : Hp) (v : V) : Prop := TmE K H 4 v ∨ OneSpot K C H v
theorem Vv.same {K : PySem.W.Frag} {C : Addr} {H H' : Hp} {v : V} (e : Same H H') : Vv K C H v → Vv K C H' v := fun h => h.imp (TmE.same e) fun ⟨a, h1, h2⟩ => ⟨a, h1, h2.same e⟩
theorem Vv.av {K : PySem.W.Frag} {C : Addr} {H : Hp} {v : V} (I : InsAny K C) (h : Vv K C H v) : ∃ x, AvOk x ∧ ∀ H', Same H H' → AVal K H' v x := by
  rcases h with ⟨x, h⟩ | ⟨a, rfl, dx, l, vs, h, _⟩
  · exact ⟨x, h.ok, fun H' e => (h.same e).val⟩
  · exact ⟨.other, ⟨(fun xs e => nomatch e), (fun xs e => nomatch e), (fun _ _ _ _ _ _ _ _ _ e => nomatch e)⟩, fun H' e => .other (i := false) (b := false) (.base (.ins (e _ _ h) I.cl I.ha I.hn I.htk I.hm)) I.ki I.kb rfl I.kl I.kt⟩
/-- its text -/
def Vz (K : PySem.W.Frag) (C : Addr) (H : Hp) (v : V) (z : Str) : Prop := (∃ d, Rp K H v d ∧ d.showable = true ∧ d.depth ≤ 16 ∧ d.shown.length ≤ sizeLine ∧ z = d.shown) ∨ (OneSpot K C H v ∧ z = shownS [[1, 0, 0]])
theorem Vz.same {K : PySem.W.Frag} {C : Addr} {H H' : Hp} {v : V} {z : Str} (e : Same H H') : Vz K C H v z → Vz K C H' v z := fun h => h.imp (fun ⟨d, h1, h2⟩ => ⟨d, h1.same e, h2⟩) fun ⟨⟨a, h1, h2⟩, h3⟩ => ⟨⟨a, h1, h2.same e⟩, h3⟩
theorem Vv.text {K : PySem.W.Frag} {C : Addr} {H : Hp} {v : V} (h : Vv K C H v) : ∃ z, Vz K C H v z := by
  rcases h with ⟨x, h⟩ | h
  · obtain ⟨d, h1, h2, h3, h4⟩ := h.rs
    refine ⟨_, .inl ⟨d, h1, h2, by omega, Nat.le_trans h4 ?_, rfl⟩⟩
    decide +kernel
  · exact ⟨_, .inr ⟨h, rfl⟩⟩
def rAny (K : PySem.W.Frag) (C : Addr) : List V → Hp → VK → Prop := fun xs H Q => ∃ (v : V) (z : Str), xs = [v] ∧ Vz K C H v z ∧ Q (.str z) H
theorem call_any {X : Cx} {C f : Addr} {fd : FuncData} (F : FnG X.prog X.w X.K X.mg X.base 1 f fd ["self"] (sp_repr X.K C)) (own : ReprOwn X.K C f) (gd : X.A.guards = some []) (room : Room 2 X.A) (bn : Binds X.K fd ["self"] []) : CallR X (.builtin "repr") (rAny X.K C) := by
  intro pn s σ H xs us Q J rv h
  obtain ⟨v, z, rfl, ⟨d, h1, h2, h3, h4, rfl⟩ | ⟨⟨a, rfl, sp⟩, rfl⟩, q⟩ := h
  · exact cr_reprAny gd room.units pn s σ H _ us Q J rv ⟨v, d, rfl, h1, h2, h3, h4, q⟩
  · obtain ⟨dx, l, us', h1, h2, h3⟩ := sp
    exact call_reprOwn F own gd room bn pn s σ H _ us Q J rv ⟨a, dx, _, rfl, h1, a, _, rfl, ⟨dx, l, us', h1, h2, h3⟩, good_one, _, rfl, q⟩
end G0

set_option pp.oneline true
namespace G0
open PySem PySem.Spec PyProof.Rows L2
abbrev s_right : Stmt := top 39
abbrev s_law : Stmt := top 40
theorem dp_int {K : PySem.W.Frag} {H : Hp} : ∀ {xs : List V} {ns : List Int}, DpAll K H xs (ns.map PyData.int) → xs = ns.map V.int
  | _, [], h => by
    cases h
    rfl
  | _, n :: ns, h => by
    cases h with
    | cons h1 h2 =>
      cases h1
      rw [dp_int h2]
      rfl
section
variable {K : PySem.W.Frag}
/-- all that stands, but the pot -/
theorem Wd.all {p : Addr} {D H : Hp} (w : Wd p D H) : Wd p (G0.del H p) H ∧ Same D (G0.del H p) :=
  ⟨⟨fun b o e => by
      by_cases eb : b = p
      · rw [eb, del_at] at e
        cases e
      · rw [del_ne eb] at e
        exact e, del_at, w.pot⟩, same_del w.n w.s⟩
theorem dp_del {H : Hp} {p : Addr} {v : V} {t : List Int} {zs : List V} (hp : H p = some (.lst zs)) (h : Dp K H v (dTup t)) : Dp K (del H p) v (dTup t) := by
  cases h with
  | tup hs ha =>
    obtain rfl := dp_int ha
    refine dp_tup ?_
    rcases hs with (h | ⟨o, h⟩) | h
    · refine .inl (.inl ?_)
      rw [del_ne (fun e => by rw [e, hp] at h; cases h)]
      exact h
    · refine .inl (.inr ⟨o, ?_⟩)
      rw [del_ne (fun e => by rw [e, hp] at h; cases h)]
      exact h
    · exact .inr h
theorem dpall_del {H : Hp} {p : Addr} {zs : List V} (hp : H p = some (.lst zs)) : ∀ {vs : List V} {ts : List (List Int)}, DpAll K H vs (ts.map dTup) → DpAll K (del H p) vs (ts.map dTup)
  | _, [], h => by
    cases h
    exact .nil
  | _, t :: ts, h => by
    cases h with
    | cons h1 h2 => exact .cons (dp_del hp h1) (dpall_del hp h2)
theorem spots_del {C : Addr} {D H : Hp} {p x : Addr} {ts : List (List Int)} (w : Wd p D H) (g : 1 ≤ ts.length) (h : SpotsAt K C H x ts) : SpotsAt K C (del H p) x ts := by
  obtain ⟨dx, l, vs, h1, h2, h3⟩ := h
  obtain ⟨a, b, q1, q2, q3, q4⟩ := w.pot
  refine ⟨dx, l, vs, ?_, ?_, dpall_del q4 h3⟩
  · rw [del_ne (fun e => by rw [e, q4] at h1; cases h1)]
    exact h1
  · rw [del_ne ?_]
    · exact h2
    · intro e
      rw [e, q4] at h2
      cases h2
      match ts, g, h3 with
      | t :: ts, _, h3 =>
        cases h3 with
        | cons h4 _ => cases h4
mutual
theorem Tm.off {K : PySem.W.Frag} {D : Hp} {L : Addr} {us : List V} (hL : D L = some (.lst us)) (h6 : 6 < us.length) : ∀ {k : Nat} {v : V} {x : AV}, Tm K D k v x → Tm K (del D L) k v x
  | _, _, _, .int h => .int h
  | _, _, _, .non => .non
  | _, _, _, .bl => .bl
  | _, _, _, .str h => .str h
  | _, _, _, .emp (a := a) h => .emp (by
      rw [del_ne (fun e => by rw [e, hL] at h; cases h)]
      exact h)
  | _, _, _, .seq (a := a) h l hs => by
    refine .seq ?_ l (TmA.off hL h6 hs)
    have ne : ∀ {o : HO}, D a = some o → o ≠ .lst us → del D L a = some o := fun {o} e n => by
      rw [del_ne (fun e2 => by
        rw [e2, hL] at e
        cases e
        exact n rfl)]
      exact e
    rcases h with h | h
    · rcases h with (h | ⟨o, h⟩) | h
      · refine .inl (.inl (.inl (ne h fun e => ?_)))
        cases e
        omega
      · exact .inl (.inl (.inr ⟨o, ne h fun e => nomatch e⟩))
      · exact .inl (.inr h)
    · rcases h with (h | ⟨o, h⟩) | h
      · exact .inr (.inl (.inl (ne h fun e => nomatch e)))
      · exact .inr (.inl (.inr ⟨o, ne h fun e => nomatch e⟩))
      · exact .inr (.inr h)
theorem TmA.off {K : PySem.W.Frag} {D : Hp} {L : Addr} {us : List V} (hL : D L = some (.lst us)) (h6 : 6 < us.length) : ∀ {k : Nat} {vs : List V} {xs : List AV}, TmA K D k vs xs → TmA K (del D L) k vs xs
  | _, _, _, .nil => .nil
  | _, _, _, .cons h hs => .cons (Tm.off hL h6 h) (TmA.off hL h6 hs)
end
theorem TmE.off {K : PySem.W.Frag} {D : Hp} {L : Addr} {us : List V} {k : Nat} {v : V} (hL : D L = some (.lst us)) (h6 : 6 < us.length) : TmE K D k v → TmE K (del D L) k v := fun ⟨x, h⟩ => ⟨x, h.off hL h6⟩
theorem Row3.tm {K : PySem.W.Frag} {D : Hp} {q : Addr} (h : Row3 D q) : TmE K D 1 (.ref q) := by
  obtain ⟨a, b, c, h1, h2⟩ := h
  exact tm_ints (.inl (SqL.mk h1)) (show 3 ≤ 6 by decide) fun n hn => by
    have := h2 n hn
    exact Nat.lt_of_le_of_lt (show n.natAbs ≤ 20 by omega) (by decide)
/-! literals, made one by one -/
theorem lit_dk {p X : Addr} {D H : Hp} {M : Addr} (on : On p X D) (w : Wd p D H) (hM : H M = none) : ∃ D' H', upd H M (.dK []) = H' ∧ Wd p D' H' ∧ Same D D' ∧ TmE K (del D' X) 1 (.ref M) ∧ On p X D' := by
  obtain ⟨w1, s1, z1⟩ := w.new (same_new (o := .dK []) hM) hM upd_same
  exact ⟨_, _, rfl, w1, s1, ⟨_, .emp ((del_ne (on.ne w (Same.refl _) hM)).trans z1)⟩, on.same s1⟩
theorem lit_L {k : Nat} {p X : Addr} {D H : Hp} {M : Addr} {vs : List V} (on : On p X D) (w : Wd p D H) (hM : H M = none) (l : vs.length ≤ 6) (c : ∀ v ∈ vs, TmE K (del D X) k v) : ∃ D' H', upd H M (.lst vs) = H' ∧ Wd p D' H' ∧ Same D D' ∧ TmE K (del D' X) (k + 1) (.ref M) ∧ On p X D' := by
  obtain ⟨w1, s1, z1⟩ := w.new (same_new (o := .lst vs) hM) hM upd_same
  exact ⟨_, _, rfl, w1, s1, tm_seq (.inl (SqL.mk ((del_ne (on.ne w (Same.refl _) hM)).trans z1))) l fun v hv => (c v hv).same (same_dd s1), on.same s1⟩
theorem lit_T {k : Nat} {p X : Addr} {D H : Hp} {M : Addr} {vs : List V} (on : On p X D) (w : Wd p D H) (hM : H M = none) (l : vs.length ≤ 6) (c : ∀ v ∈ vs, TmE K (del D X) k v) : ∃ D' H', upd H M (.tup vs) = H' ∧ Wd p D' H' ∧ Same D D' ∧ TmE K (del D' X) (k + 1) (.ref M) ∧ On p X D' := by
  obtain ⟨w1, s1, z1⟩ := w.new (same_new (o := .tup vs) hM) hM upd_same
  exact ⟨_, _, rfl, w1, s1, tm_seq (.inr (SqT.mk ((del_ne (on.ne w (Same.refl _) hM)).trans z1))) l fun v hv => (c v hv).same (same_dd s1), on.same s1⟩
/-- ints and truths -/
def cst : V → Bool
  | .int n => decide (n.natAbs < 2 ^ 30)
  | .non => true
  | .bl _ => true
  | _ => false
theorem cst_tm {D : Hp} {k : Nat} {v : V} (h : cst v = true) : TmE K D k v := by
  cases v with
  | int n => exact ⟨_, .int (of_decide_eq_true h)⟩
  | non => exact ⟨_, .non⟩
  | bl b => exact ⟨_, .bl⟩
  | _ => cases h
theorem csts {D : Hp} {k : Nat} {vs : List V} (h : vs.all cst = true) : ∀ v ∈ vs, TmE K D k v := fun v hv => cst_tm (List.all_eq_true.mp h v hv)
end
section
variable {P : Program} {w : World} {K : PySem.W.Frag} {mg : Str → Option Value} {base : Heap}
def sp_right : Sp := fun vs H Q _ => ∃ (p : Addr) (D : Hp), vs = [.ref p] ∧ Wd p D H ∧ ∀ H', Wd p D H' → Q (.bl true) H'
theorem sc_right : FnScope ["_law_pot_here", "_law_values", "_law_turn", "_law_point_here", "_law_rows", "_law_at", "_law_value", "_law_shown", "_law_told", "_law_one", "_law_other"] ["_law_pot_here"] (defScope s_right) := ⟨rfl, rfl, rfl, by decide +kernel, rfl, by decide +kernel, by decide +kernel⟩
theorem ok_right {C f fi fr f1 f2 f3 f4 f5 f6 f7 f8 : Addr} {fd fdi fdr fd1 fd2 fd3 fd4 fd5 fd6 fd7 fd8 : FuncData} (F : Fun K "_law_right" "_law_right" s_right f fd) (B : Blt mg) (S : SpTxt K mg C) (M : Mk K C fi) (GI : FnOk P w K mg base CX0 5 fi fdi ["self", "points"] (sp_init K C)) (bI : Binds K fdi ["self", "points"] [])
    (IA : InsAny K C) (own : ReprOwn K C fr) (GR : FnG P w K mg base 1 fr fdr ["self"] (sp_repr K C)) (bR : Binds K fdr ["self"] [])
    (Dpoint : Df K mg "_law_point" s_point ["_law_pot_here", "_law_most"] f1 fd1) (Gpoint : FnOk P w K mg base CX0 2 f1 fd1 ["_law_pot_here", "_law_most"] sp_point)
    (Dtab : Df K mg "_law_table" s_ltable ["_law_pot_here", "_law_most"] f2 fd2) (Gtab : FnOk P w K mg base CX0 3 f2 fd2 ["_law_pot_here", "_law_most"] sp_ltable)
    (Dbent : Df K mg "_law_bent" s_lbent ["_law_pot_here", "_law_value"] f3 fd3) (Gbent : FnOk P w K mg base CX0 3 f3 fd3 ["_law_pot_here", "_law_value"] (sp_lbent K))
    (Drb : Df K mg "_law_rows_bent" s_rbent ["_law_pot_here", "_law_rows"] f4 fd4) (Grb : FnOk P w K mg base CX0 4 f4 fd4 ["_law_pot_here", "_law_rows"] (sp_rbent K))
    (Dip : Df K mg "is_point" s_is_point ["value"] f5 fd5) (Gip : FnOk P w K mg base CX0 3 f5 fd5 ["value"] (sp_pointA K)) (Kip : KB fd5 ["value"] ["value"] 0)
    (Dit : Df K mg "is_table" s_is_table ["value"] f6 fd6) (Git : FnOk P w K mg base CX0 4 f6 fd6 ["value"] (sp_tableA K)) (Kit : KB fd6 ["value"] ["value"] 0)
    (Dlip : Df K mg "_law_is_point" s_lis_point ["_law_value"] f7 fd7) (Glip : FnOk P w K mg base CX0 1 f7 fd7 ["_law_value"] (sp_pointA K))
    (Dlit : Df K mg "_law_is_table" s_lis_table ["_law_value"] f8 fd8) (Glit : FnOk P w K mg base CX0 3 f8 fd8 ["_law_value"] (sp_tableA K)) :
    FnG P w K mg base 7 f fd ["_law_pot_here"] sp_right := by
  refine F.okG sc_right (fun vs H Q E h => ?_) (fun cdv A outer s H vs Q E gd hr h => ?_)
  · obtain ⟨p, D, rfl, _⟩ := h
    rfl
  · obtain ⟨p, D, rfl, wd, q⟩ := h
    have hu := hr.units
    have r1 : Room 1 _ := hr.mono (by decide)
    have r2 : Room 2 _ := hr.mono (by decide)
    have r3 : Room 3 _ := hr.mono (by decide)
    have r4 : Room 4 _ := hr.mono (by decide)
    refine ⟨_, pss_cons (ps_set (i := 1) sc_right.nd rfl (Or.inl rfl) (pe_lst (pa_cons pe_non (pa_cons pe_int (pa_cons pe_int (pa_cons pe_bl (pa_cons pe_str (pa_cons pe_str (pa_cons (pe_lst pa_nil) (pa_cons (pe_tup pa_nil) (pa_cons pe_dnewK (pa_cons (pe_op op_rep (pe_lst (pa_cons pe_non pa_nil)) pe_int) (pa_cons (pe_op op_rep (pe_lst (pa_cons (pe_lst pa_nil) pa_nil)) pe_int) (pa_cons (pe_tup (pa_cons pe_int (pa_cons pe_int (pa_cons pe_int pa_nil)))) (pa_cons (pe_lst (pa_cons pe_int (pa_cons pe_int (pa_cons (pe_un un_neg pe_int) pa_nil)))) (pa_cons (pe_tup (pa_cons (pe_op op_pow pe_int pe_int) (pa_cons pe_int (pa_cons (pe_un un_neg pe_int) pa_nil)))) (pa_cons (pe_lst (pa_cons (pe_tup (pa_cons pe_int (pa_cons pe_int (pa_cons pe_int pa_nil)))) pa_nil)) (pa_cons (pe_make (E := E0) M GI hr (by rfl) S.mgC bI .nil pass0 (pa_cons (pe_lst (pa_cons (pe_tup (pa_cons pe_int (pa_cons pe_int (pa_cons pe_int pa_nil)))) pa_nil)) pa_nil)) pa_nil))))))))))))))))))
      (pss_cons (ps_expr (pe_bm PySem.F.plainAttrs_list PySem.F.slot_list_extend PySem.F.type_list_extend mt_extend (pv 1) (pa_cons (pe_lst (pa_cons (pe_lst (pa_cons (pe_lst (pa_cons pe_int (pa_cons pe_int (pa_cons pe_int pa_nil)))) (pa_cons (pe_lst (pa_cons pe_int (pa_cons pe_int (pa_cons pe_int pa_nil)))) (pa_cons (pe_lst (pa_cons pe_int (pa_cons pe_int (pa_cons pe_int pa_nil)))) pa_nil)))) (pa_cons (pe_tup (pa_cons (pe_tup (pa_cons pe_int (pa_cons pe_int (pa_cons pe_int pa_nil)))) (pa_cons (pe_tup (pa_cons pe_int (pa_cons pe_int (pa_cons pe_int pa_nil)))) (pa_cons (pe_lst (pa_cons pe_int (pa_cons pe_int (pa_cons pe_int pa_nil)))) pa_nil)))) (pa_cons (pe_lst (pa_cons (pe_lst (pa_cons pe_int (pa_cons pe_int (pa_cons pe_int pa_nil)))) (pa_cons (pe_lst (pa_cons pe_int (pa_cons pe_int (pa_cons pe_int pa_nil)))) (pa_cons (pe_lst (pa_cons pe_int (pa_cons pe_int (pa_cons pe_int pa_nil)))) pa_nil)))) (pa_cons (pe_lst (pa_cons (pe_lst (pa_cons pe_bl (pa_cons pe_int (pa_cons pe_int pa_nil)))) (pa_cons (pe_lst (pa_cons pe_int (pa_cons pe_int (pa_cons pe_int pa_nil)))) (pa_cons (pe_lst (pa_cons pe_int (pa_cons pe_int (pa_cons pe_int pa_nil)))) pa_nil)))) (pa_cons (pe_lst (pa_cons (pe_lst (pa_cons pe_int (pa_cons pe_int (pa_cons pe_int pa_nil)))) (pa_cons (pe_lst (pa_cons pe_int (pa_cons pe_int (pa_cons pe_int pa_nil)))) (pa_cons (pe_tup (pa_cons pe_int (pa_cons pe_int (pa_cons pe_bl pa_nil)))) pa_nil)))) pa_nil)))))) pa_nil)))
      (pss_cons (ps_for PassesOwn.never rfl (pi_range1 (by rfl) B.range (pa_cons pe_int pa_nil)) (pg_name (i := 2) sc_right.nd rfl (Or.inl rfl)) (pss_cons (ps_par (i := 3) (j := 4) rfl sc_right.nd rfl rfl (by decide) rfl rfl (pa_cons (pdf Dpoint Gpoint r2 (pa_cons (pv 0) (pa_cons pe_int pa_nil))) (pa_cons (pdf Dtab Gtab r3 (pa_cons (pv 0) (pa_cons pe_int pa_nil))) pa_nil)) (by rfl))
        (pss_one (ps_expr (pe_bm PySem.F.plainAttrs_list PySem.F.slot_list_extend PySem.F.type_list_extend mt_extend (pv 1) (pa_cons (pe_lst (pa_cons (pv 3) (pa_cons (pdf Dbent Gbent r3 (pa_cons (pv 0) (pa_cons (pv 3) pa_nil))) (pa_cons (pv 4) (pa_cons (pe_callTy call_tuple_of (by rfl) B.tuple boot_ttuple (pa_cons (pv 4) pa_nil)) (pa_cons (pdf Drb Grb r4 (pa_cons (pv 0) (pa_cons (pv 4) pa_nil))) (pa_cons (pe_lc (own := [("_law_at", 5)]) (g := gName 5) (tt := tYes) rfl sc_right.nd (pi_range1 (by rfl) B.range (pa_cons pe_int pa_nil)) (blkOk_by (N := ["_law_pot_here", "_law_values", "_law_turn", "_law_point_here", "_law_rows", "_law_at", "_law_value", "_law_shown", "_law_told", "_law_one", "_law_other"]) (sc := defScope s_right) (by decide +kernel)) (fun _ _ _ _ _ => pg_name (i := 5) sc_right.nd rfl (Or.inl rfl)) (fun _ _ _ _ _ => pts_nil) (fun _ _ _ _ _ => (pdf Dpoint Gpoint r2 (pa_cons (pv 0) (pa_cons pe_int pa_nil))))) pa_nil))))))) pa_nil))))))
      (pss_cons (ps_for PassesOwn.never rfl (pi_list (pv 1)) (pg_name (i := 6) sc_right.nd rfl (Or.inl rfl)) (pss_cons (ps_set (i := 7) sc_right.nd rfl (Or.inl rfl) (pe_callB (call_any GR own gd r2 bR) (by rfl) B.repr boot_repr (pa_cons (pv 6) pa_nil)))
        (pss_cons (ps_set (i := 8) sc_right.nd rfl (Or.inl rfl) (pe_lst (pa_cons (pdf Dip Gip r3 (pa_cons (pv 6) pa_nil)) (pa_cons (pe_callN (E := E0) Gip r3 (by rfl) Dip.g Dip.F.kp Kip (pk_cons (pv 6) pk_nil)) (pa_cons (pdf Dit Git r4 (pa_cons (pv 6) pa_nil)) (pa_cons (pe_callN (E := E0) Git r4 (by rfl) Dit.g Dit.F.kp Kit (pk_cons (pv 6) pk_nil)) pa_nil))))))
        (pss_cons (ps_par (i := 9) (j := 10) rfl sc_right.nd rfl rfl (by decide) rfl rfl (pa_cons (pdf Dlip Glip r1 (pa_cons (pv 6) pa_nil)) (pa_cons (pdf Dlit Glit r3 (pa_cons (pv 6) pa_nil)) pa_nil)) (by rfl))
        (pss_one (ps_if (PW.pt (pw_or (pt_cmpR op_ne (pe_callB (call_any GR own gd r2 bR) (by rfl) B.repr boot_repr (pa_cons (pv 8) pa_nil)) (pe_callB (call_any GR own gd r2 bR) (by rfl) B.repr boot_repr (pa_cons (pe_lst (pa_cons (pv 9) (pa_cons (pv 9) (pa_cons (pv 10) (pa_cons (pv 10) pa_nil))))) pa_nil)) (nomark _)) (pw_or1 (pt_cmpR op_ne (pe_callB (call_any GR own gd r2 bR) (by rfl) B.repr boot_repr (pa_cons (pv 6) pa_nil)) (pv 7) (nomark _))))) (pss_one (ps_ret pe_bl)) pss_nil))))))
      (pss_one (ps_ret pe_bl))))), ?_⟩
    have on := (Or.inl rfl : On p p D)
    -- the first sixteen
    refine ⟨by show 0 ≤ sizeLine; decide, fun a ha => ?_⟩
    obtain ⟨Da, Ha, eH, wa, sa, ta, on⟩ := lit_L (K := K) (k := 1) (vs := []) on wd ha (by show 0 ≤ 6; decide) (csts rfl)
    have eH : upd H a (.lst []) = Ha := eH
    rw [eH]
    clear eH ha
    refine ⟨by show 0 ≤ sizeLine; decide, fun b hb => ?_⟩
    obtain ⟨Db, Hb, eH, wb, sb, tb, on⟩ := lit_T (K := K) (k := 1) (vs := []) on wa hb (by show 0 ≤ 6; decide) (csts rfl)
    have eH : upd Ha b (.tup []) = Hb := eH
    rw [eH]
    clear eH hb
    refine fun c hc => ?_
    obtain ⟨Dc, Hc, eH, wc, sc, tc, on⟩ := lit_dk (K := K) on wb hc
    rw [eH]
    clear eH hc
    refine ⟨by show 1 ≤ sizeLine; decide, fun d0 hd0 => ?_⟩
    obtain ⟨wd0, sd0, zd0⟩ := wc.new (same_new (o := .lst [.non]) hd0) hd0 upd_same
    have yd0 : (upd Hc d0 (.lst [.non])) d0 = some (.lst [.non]) := upd_same
    have ond0 := on.same sd0
    clear on
    have on := ond0
    clear ond0
    revert wd0 sd0 zd0 yd0 on
    generalize upd Hc d0 (.lst [.non]) = Hd0
    generalize upd Dc d0 (.lst [.non]) = Dd0
    intro wd0 sd0 zd0 yd0 on
    refine ⟨d0, 3, _, rfl, rfl, yd0, by decide, by decide, by show 1 * 3 ≤ sizeLine; decide, fun d hd => ?_⟩
    obtain ⟨Dd, Hd, eH, wd, sd, td, on⟩ := lit_L (K := K) (k := 1) (vs := [.non, .non, .non]) on wd0 hd (by show 3 ≤ 6; decide) (csts rfl)
    have eH : upd Hd0 d (.lst (List.replicate (3 : Int).toNat [.non]).flatten) = Hd := eH
    rw [eH]
    clear eH hd
    refine ⟨by show 0 ≤ sizeLine; decide, fun e0 he0 => ?_⟩
    obtain ⟨De0, He0, eH, we0, se0, te0, on⟩ := lit_L (K := K) (k := 1) (vs := []) on wd he0 (by show 0 ≤ 6; decide) (csts rfl)
    have eH : upd Hd e0 (.lst []) = He0 := eH
    rw [eH]
    clear eH he0
    refine ⟨by show 1 ≤ sizeLine; decide, fun e1 he1 => ?_⟩
    obtain ⟨we1, se1, ze1⟩ := we0.new (same_new (o := .lst [.ref e0]) he1) he1 upd_same
    have ye1 : (upd He0 e1 (.lst [.ref e0])) e1 = some (.lst [.ref e0]) := upd_same
    have one1 := on.same se1
    clear on
    have on := one1
    clear one1
    revert we1 se1 ze1 ye1 on
    generalize upd He0 e1 (.lst [.ref e0]) = He1
    generalize upd De0 e1 (.lst [.ref e0]) = De1
    intro we1 se1 ze1 ye1 on
    refine ⟨e1, 3, _, rfl, rfl, ye1, by decide, by decide, by show 1 * 3 ≤ sizeLine; decide, fun e he => ?_⟩
    obtain ⟨De, He, eH, we, se, te, on⟩ := lit_L (K := K) (k := 2) (vs := [.ref e0, .ref e0, .ref e0]) on we1 he (by show 3 ≤ 6; decide) (fun v hv => by
      simp only [List.mem_cons, List.not_mem_nil, or_false, or_self] at hv
      rw [hv]
      exact te0.same (same_dd se1))
    have eH : upd He1 e (.lst (List.replicate (3 : Int).toNat [.ref e0]).flatten) = He := eH
    rw [eH]
    clear eH he
    refine ⟨by show 3 ≤ sizeLine; decide, fun f hf => ?_⟩
    obtain ⟨Df, Hf, eH, wf, sf, tf, on⟩ := lit_T (K := K) (k := 1) (vs := [.int 0, .int 0, .int 0]) on we hf (by show 3 ≤ 6; decide) (csts rfl)
    have eH : upd He f (.tup [.int 0, .int 0, .int 0]) = Hf := eH
    rw [eH]
    clear eH hf
    refine ⟨_, rfl, by show 3 ≤ sizeLine; decide, fun g hg => ?_⟩
    obtain ⟨Dg, Hg, eH, wg, sg, tg, on⟩ := lit_L (K := K) (k := 1) (vs := [.int 0, .int 0, .int (-1)]) on wf hg (by show 3 ≤ 6; decide) (csts rfl)
    have eH : upd Hf g (.lst [.int 0, .int 0, .int (-1)]) = Hg := eH
    rw [eH]
    clear eH hg
    refine ⟨_, _, rfl, rfl, ⟨by decide, by decide, by decide⟩, _, rfl, by show 3 ≤ sizeLine; decide, fun h hh => ?_⟩
    obtain ⟨Dh, Hh, eH, wh, sh, th, on⟩ := lit_T (K := K) (k := 1) (vs := [.int (10 ^ (5 : Int).toNat), .int 0, .int (-4)]) on wg hh (by show 3 ≤ 6; decide) (csts rfl)
    have eH : upd Hg h (.tup [.int (10 ^ (5 : Int).toNat), .int 0, .int (-4)]) = Hh := eH
    rw [eH]
    clear eH hh
    refine ⟨by show 3 ≤ sizeLine; decide, fun i0 hi0 => ?_⟩
    obtain ⟨Di0, Hi0, eH, wi0, si0, ti0, on⟩ := lit_T (K := K) (k := 1) (vs := [.int 1, .int 0, .int 0]) on wh hi0 (by show 3 ≤ 6; decide) (csts rfl)
    have eH : upd Hh i0 (.tup [.int 1, .int 0, .int 0]) = Hi0 := eH
    rw [eH]
    clear eH hi0
    refine ⟨by show 1 ≤ sizeLine; decide, fun i hi => ?_⟩
    obtain ⟨Di, Hi, eH, wi, si, ti, on⟩ := lit_L (K := K) (k := 2) (vs := [.ref i0]) on wi0 hi (by show 1 ≤ 6; decide) (fun v hv => by
      rw [List.mem_singleton.mp hv]
      exact ti0)
    have eH : upd Hi0 i (.lst [.ref i0]) = Hi := eH
    rw [eH]
    clear eH hi
    refine ⟨by show 3 ≤ sizeLine; decide, fun j0 hj0 => ?_⟩
    obtain ⟨wj0, sj0, zj0⟩ := wi.new (same_new (o := .tup [.int 1, .int 0, .int 0]) hj0) hj0 upd_same
    have yj0 : (upd Hi j0 (.tup [.int 1, .int 0, .int 0])) j0 = some (.tup [.int 1, .int 0, .int 0]) := upd_same
    have onj0 := on.same sj0
    clear on
    have on := onj0
    clear onj0
    revert wj0 sj0 zj0 yj0 on
    generalize upd Hi j0 (.tup [.int 1, .int 0, .int 0]) = Hj0
    generalize upd Di j0 (.tup [.int 1, .int 0, .int 0]) = Dj0
    intro wj0 sj0 zj0 yj0 on
    refine ⟨by show 1 ≤ sizeLine; decide, fun j hj => ?_⟩
    obtain ⟨wj, sj, zj⟩ := wj0.new (same_new (o := .lst [.ref j0]) hj) hj upd_same
    have yj : (upd Hj0 j (.lst [.ref j0])) j = some (.lst [.ref j0]) := upd_same
    have onj := on.same sj
    clear on
    have on := onj
    clear onj
    revert wj sj zj yj on
    generalize upd Hj0 j (.lst [.ref j0]) = Hj
    generalize upd Dj0 j (.lst [.ref j0]) = Dj
    intro wj sj zj yj on
    refine fun X dx nX ndx nXd => ?_
    have s7 : Same Hj (upd (upd Hj dx (.own X)) X (.ins C dx [])) := fun b o e => by
      rw [upd_ne (ne_of_none e nX), upd_ne (ne_of_none e ndx)]
      exact e
    refine ⟨Hj, X, dx, j, [.ref j0], [[1, 0, 0]], rfl, s7, nX, upd_same, .inl (SqL.mk yj), rfl, fun i v t hv ht => ?_, by show 1 ≤ 1; decide, by show 1 ≤ 24; decide, by decide, fun H8 s8 sp8 => ?_⟩
    · match i, hv, ht with
      | 0, hv, ht =>
        cases hv
        cases ht
        exact ⟨⟨j0, 1, 0, 0, rfl, rfl, .inr (SqT.mk (wj.s _ _ (sj _ _ zj0)))⟩, good_one.nz _ (by simp), good_one.sm _ (by simp)⟩
    have e1 : [[1, 0, 0]].map plainI = [[1, 0, 0]] := good_one.map
    rw [e1] at sp8
    have w8 := wj.pure s8
    have sp9 := spots_del w8 (by decide) sp8
    obtain ⟨wA, sA⟩ := w8.all
    have kj := sA
    have kj0 := sj.trans kj
    have ki := sj0.trans kj0
    have ki0 := si.trans ki
    have kh := si0.trans ki0
    have kg := sh.trans kh
    have kf := sg.trans kg
    have ke := sf.trans kf
    have ke1 := se.trans ke
    have ke0 := se1.trans ke1
    have kd := se0.trans ke0
    have kd0 := sd.trans kd
    have kc := sd0.trans kd0
    have kb := sc.trans kc
    have ka := sb.trans kb
    have vv : ∀ u ∈ [V.non, .int 0, .int 7, .bl true, .str "", .str "abc", .ref a, .ref b, .ref c, .ref d, .ref e, .ref f, .ref g, .ref h, .ref i, .ref X], Vv K C (del H8 p) u := by
      intro u hu
      simp only [List.mem_cons, List.not_mem_nil, or_false] at hu
      rcases hu with rfl | rfl | rfl | rfl | rfl | rfl | rfl | rfl | rfl | rfl | rfl | rfl | rfl | rfl | rfl | rfl
      · exact .inl (cst_tm rfl)
      · exact .inl (cst_tm rfl)
      · exact .inl (cst_tm rfl)
      · exact .inl (cst_tm rfl)
      · exact .inl ⟨_, .str (by decide +kernel)⟩
      · exact .inl ⟨_, .str (by decide +kernel)⟩
      · exact .inl (((ta.same (same_dd ka)).same del_sub).up (by decide))
      · exact .inl (((tb.same (same_dd kb)).same del_sub).up (by decide))
      · exact .inl (((tc.same (same_dd kc)).same del_sub).up (by decide))
      · exact .inl (((td.same (same_dd kd)).same del_sub).up (by decide))
      · exact .inl (((te.same (same_dd ke)).same del_sub).up (by decide))
      · exact .inl (((tf.same (same_dd kf)).same del_sub).up (by decide))
      · exact .inl (((tg.same (same_dd kg)).same del_sub).up (by decide))
      · exact .inl (((th.same (same_dd kh)).same del_sub).up (by decide))
      · exact .inl (((ti.same (same_dd ki)).same del_sub).up (by decide))
      · exact .inr ⟨X, rfl, sp9⟩
    refine ⟨rfl, by show 16 ≤ sizeLine; decide, fun L hL => ?_⟩
    have len : [V.non, .int 0, .int 7, .bl true, .str "", .str "abc", .ref a, .ref b, .ref c, .ref d, .ref e, .ref f, .ref g, .ref h, .ref i, .ref X].length = 16 := rfl
    have sD : Same D (del H8 p) := sa.trans ka
    clear ka kb kc kd0 kd ke0 ke1 ke kf kg kh ki0 ki kj0 kj sa sb sc sd0 sd se0 se1 se sf sg sh si0 si sj0 sj wa wb wc wd0 wd we0 we1 we wf wg wh wi0 wi wj0 wj ta tb tc td te0 te tf tg th ti0 ti sp8 sp9 yd0 ye1 yj0 yj zd0 ze1 zj0 zj w8 sA s8 s7 on e1
    revert vv len wA sD
    generalize [V.non, .int 0, .int 7, .bl true, .str "", .str "abc", .ref a, .ref b, .ref c, .ref d, .ref e, .ref f, .ref g, .ref h, .ref i, .ref X] = us
    generalize del H8 p = D8
    intro wA vv len sD
    have L0 := wA.s.free hL
    have Lp := wA.ne hL
    have w0 := wA.over (o := .lst us) L0 Lp
    have h0 : (upd H8 L (.lst us)) L = some (.lst us) := upd_same
    revert w0 h0
    generalize upd H8 L (.lst us) = H9
    intro w0 h0
    clear hL nX ndx nXd
    -- five more
    have wL := w0.got L0 Lp h0
    have on : On p L (upd D8 L (.lst us)) := .inr ⟨_, upd_same⟩
    have sL := same_new (o := .lst us) L0
    have zL : (upd D8 L (.lst us)) L = some (.lst us) := upd_same
    revert wL on sL zL
    generalize upd D8 L (.lst us) = DL
    intro wL on sL zL
    refine ⟨_, rfl, .inl ⟨rfl, _, SqL.mk h0⟩, ?_⟩
    refine ⟨by show 3 ≤ sizeLine; decide, fun m0 hm0 => ?_⟩
    obtain ⟨Dm0, Hm0, eH, wm0, sm0, tm0, on⟩ := lit_L (K := K) (k := 1) (vs := [.int 1, .int 0, .int 0]) on wL hm0 (by show 3 ≤ 6; decide) (csts rfl)
    have eH : upd H9 m0 (.lst [.int 1, .int 0, .int 0]) = Hm0 := eH
    rw [eH]
    clear eH hm0
    refine ⟨by show 3 ≤ sizeLine; decide, fun m1 hm1 => ?_⟩
    obtain ⟨Dm1, Hm1, eH, wm1, sm1, tm1, on⟩ := lit_L (K := K) (k := 1) (vs := [.int 0, .int 1, .int 0]) on wm0 hm1 (by show 3 ≤ 6; decide) (csts rfl)
    have eH : upd Hm0 m1 (.lst [.int 0, .int 1, .int 0]) = Hm1 := eH
    rw [eH]
    clear eH hm1
    refine ⟨by show 3 ≤ sizeLine; decide, fun m2 hm2 => ?_⟩
    obtain ⟨Dm2, Hm2, eH, wm2, sm2, tm2, on⟩ := lit_L (K := K) (k := 1) (vs := [.int 0, .int 0, .int 1]) on wm1 hm2 (by show 3 ≤ 6; decide) (csts rfl)
    have eH : upd Hm1 m2 (.lst [.int 0, .int 0, .int 1]) = Hm2 := eH
    rw [eH]
    clear eH hm2
    refine ⟨by show 3 ≤ sizeLine; decide, fun m hm => ?_⟩
    obtain ⟨Dm, Hm, eH, wm, sm, tm, on⟩ := lit_L (K := K) (k := 2) (vs := [.ref m0, .ref m1, .ref m2]) on wm2 hm (by show 3 ≤ 6; decide) (fun v hv => by
      simp only [List.mem_cons, List.not_mem_nil, or_false] at hv
      rcases hv with rfl | rfl | rfl
      · exact tm0.same (same_dd (sm1.trans sm2))
      · exact tm1.same (same_dd sm2)
      · exact tm2)
    have eH : upd Hm2 m (.lst [.ref m0, .ref m1, .ref m2]) = Hm := eH
    rw [eH]
    clear eH hm
    refine ⟨by show 3 ≤ sizeLine; decide, fun n0 hn0 => ?_⟩
    obtain ⟨Dn0, Hn0, eH, wn0, sn0, tn0, on⟩ := lit_T (K := K) (k := 1) (vs := [.int 0, .int 0, .int 1]) on wm hn0 (by show 3 ≤ 6; decide) (csts rfl)
    have eH : upd Hm n0 (.tup [.int 0, .int 0, .int 1]) = Hn0 := eH
    rw [eH]
    clear eH hn0
    refine ⟨by show 3 ≤ sizeLine; decide, fun n1 hn1 => ?_⟩
    obtain ⟨Dn1, Hn1, eH, wn1, sn1, tn1, on⟩ := lit_T (K := K) (k := 1) (vs := [.int 0, .int 1, .int 0]) on wn0 hn1 (by show 3 ≤ 6; decide) (csts rfl)
    have eH : upd Hn0 n1 (.tup [.int 0, .int 1, .int 0]) = Hn1 := eH
    rw [eH]
    clear eH hn1
    refine ⟨by show 3 ≤ sizeLine; decide, fun n2 hn2 => ?_⟩
    obtain ⟨Dn2, Hn2, eH, wn2, sn2, tn2, on⟩ := lit_L (K := K) (k := 1) (vs := [.int 1, .int 0, .int 0]) on wn1 hn2 (by show 3 ≤ 6; decide) (csts rfl)
    have eH : upd Hn1 n2 (.lst [.int 1, .int 0, .int 0]) = Hn2 := eH
    rw [eH]
    clear eH hn2
    refine ⟨by show 3 ≤ sizeLine; decide, fun n hn => ?_⟩
    obtain ⟨Dn, Hn, eH, wn, sn, tn, on⟩ := lit_T (K := K) (k := 2) (vs := [.ref n0, .ref n1, .ref n2]) on wn2 hn (by show 3 ≤ 6; decide) (fun v hv => by
      simp only [List.mem_cons, List.not_mem_nil, or_false] at hv
      rcases hv with rfl | rfl | rfl
      · exact tn0.same (same_dd (sn1.trans sn2))
      · exact tn1.same (same_dd sn2)
      · exact tn2)
    have eH : upd Hn2 n (.tup [.ref n0, .ref n1, .ref n2]) = Hn := eH
    rw [eH]
    clear eH hn
    refine ⟨by show 3 ≤ sizeLine; decide, fun o0 ho0 => ?_⟩
    obtain ⟨Do0, Ho0, eH, wo0, so0, to0, on⟩ := lit_L (K := K) (k := 1) (vs := [.int 1, .int 2, .int 3]) on wn ho0 (by show 3 ≤ 6; decide) (csts rfl)
    have eH : upd Hn o0 (.lst [.int 1, .int 2, .int 3]) = Ho0 := eH
    rw [eH]
    clear eH ho0
    refine ⟨by show 3 ≤ sizeLine; decide, fun o1 ho1 => ?_⟩
    obtain ⟨Do1, Ho1, eH, wo1, so1, to1, on⟩ := lit_L (K := K) (k := 1) (vs := [.int 4, .int 5, .int 6]) on wo0 ho1 (by show 3 ≤ 6; decide) (csts rfl)
    have eH : upd Ho0 o1 (.lst [.int 4, .int 5, .int 6]) = Ho1 := eH
    rw [eH]
    clear eH ho1
    refine ⟨by show 3 ≤ sizeLine; decide, fun o2 ho2 => ?_⟩
    obtain ⟨Do2, Ho2, eH, wo2, so2, to2, on⟩ := lit_L (K := K) (k := 1) (vs := [.int 7, .int 8, .int 9]) on wo1 ho2 (by show 3 ≤ 6; decide) (csts rfl)
    have eH : upd Ho1 o2 (.lst [.int 7, .int 8, .int 9]) = Ho2 := eH
    rw [eH]
    clear eH ho2
    refine ⟨by show 3 ≤ sizeLine; decide, fun o ho => ?_⟩
    obtain ⟨Do, Ho, eH, wo, so, to, on⟩ := lit_L (K := K) (k := 2) (vs := [.ref o0, .ref o1, .ref o2]) on wo2 ho (by show 3 ≤ 6; decide) (fun v hv => by
      simp only [List.mem_cons, List.not_mem_nil, or_false] at hv
      rcases hv with rfl | rfl | rfl
      · exact to0.same (same_dd (so1.trans so2))
      · exact to1.same (same_dd so2)
      · exact to2)
    have eH : upd Ho2 o (.lst [.ref o0, .ref o1, .ref o2]) = Ho := eH
    rw [eH]
    clear eH ho
    refine ⟨by show 3 ≤ sizeLine; decide, fun r0 hr0 => ?_⟩
    obtain ⟨Dr0, Hr0, eH, wr0, sr0, tr0, on⟩ := lit_L (K := K) (k := 1) (vs := [.bl true, .int 0, .int 0]) on wo hr0 (by show 3 ≤ 6; decide) (csts rfl)
    have eH : upd Ho r0 (.lst [.bl true, .int 0, .int 0]) = Hr0 := eH
    rw [eH]
    clear eH hr0
    refine ⟨by show 3 ≤ sizeLine; decide, fun r1 hr1 => ?_⟩
    obtain ⟨Dr1, Hr1, eH, wr1, sr1, tr1, on⟩ := lit_L (K := K) (k := 1) (vs := [.int 0, .int 1, .int 0]) on wr0 hr1 (by show 3 ≤ 6; decide) (csts rfl)
    have eH : upd Hr0 r1 (.lst [.int 0, .int 1, .int 0]) = Hr1 := eH
    rw [eH]
    clear eH hr1
    refine ⟨by show 3 ≤ sizeLine; decide, fun r2 hr2 => ?_⟩
    obtain ⟨Dr2, Hr2, eH, wr2, sr2, tr2, on⟩ := lit_L (K := K) (k := 1) (vs := [.int 0, .int 0, .int 1]) on wr1 hr2 (by show 3 ≤ 6; decide) (csts rfl)
    have eH : upd Hr1 r2 (.lst [.int 0, .int 0, .int 1]) = Hr2 := eH
    rw [eH]
    clear eH hr2
    refine ⟨by show 3 ≤ sizeLine; decide, fun r hr => ?_⟩
    obtain ⟨Dr, Hr, eH, wr, sr, tr, on⟩ := lit_L (K := K) (k := 2) (vs := [.ref r0, .ref r1, .ref r2]) on wr2 hr (by show 3 ≤ 6; decide) (fun v hv => by
      simp only [List.mem_cons, List.not_mem_nil, or_false] at hv
      rcases hv with rfl | rfl | rfl
      · exact tr0.same (same_dd (sr1.trans sr2))
      · exact tr1.same (same_dd sr2)
      · exact tr2)
    have eH : upd Hr2 r (.lst [.ref r0, .ref r1, .ref r2]) = Hr := eH
    rw [eH]
    clear eH hr
    refine ⟨by show 3 ≤ sizeLine; decide, fun t0 ht0 => ?_⟩
    obtain ⟨Dt0, Ht0, eH, wt0, st0, tt0, on⟩ := lit_L (K := K) (k := 1) (vs := [.int 1, .int 0, .int 0]) on wr ht0 (by show 3 ≤ 6; decide) (csts rfl)
    have eH : upd Hr t0 (.lst [.int 1, .int 0, .int 0]) = Ht0 := eH
    rw [eH]
    clear eH ht0
    refine ⟨by show 3 ≤ sizeLine; decide, fun t1 ht1 => ?_⟩
    obtain ⟨Dt1, Ht1, eH, wt1, st1, tt1, on⟩ := lit_L (K := K) (k := 1) (vs := [.int 0, .int 1, .int 0]) on wt0 ht1 (by show 3 ≤ 6; decide) (csts rfl)
    have eH : upd Ht0 t1 (.lst [.int 0, .int 1, .int 0]) = Ht1 := eH
    rw [eH]
    clear eH ht1
    refine ⟨by show 3 ≤ sizeLine; decide, fun t2 ht2 => ?_⟩
    obtain ⟨Dt2, Ht2, eH, wt2, st2, tt2, on⟩ := lit_T (K := K) (k := 1) (vs := [.int 0, .int 0, .bl true]) on wt1 ht2 (by show 3 ≤ 6; decide) (csts rfl)
    have eH : upd Ht1 t2 (.tup [.int 0, .int 0, .bl true]) = Ht2 := eH
    rw [eH]
    clear eH ht2
    refine ⟨by show 3 ≤ sizeLine; decide, fun t ht => ?_⟩
    obtain ⟨Dt, Ht, eH, wt, st, tt, on⟩ := lit_L (K := K) (k := 2) (vs := [.ref t0, .ref t1, .ref t2]) on wt2 ht (by show 3 ≤ 6; decide) (fun v hv => by
      simp only [List.mem_cons, List.not_mem_nil, or_false] at hv
      rcases hv with rfl | rfl | rfl
      · exact tt0.same (same_dd (st1.trans st2))
      · exact tt1.same (same_dd st2)
      · exact tt2)
    have eH : upd Ht2 t (.lst [.ref t0, .ref t1, .ref t2]) = Ht := eH
    rw [eH]
    clear eH ht
    refine ⟨by show 5 ≤ sizeLine; decide, fun z hz => ?_⟩
    obtain ⟨wz, sz, zz⟩ := wt.new (same_new (o := .lst [.ref m, .ref n, .ref o, .ref r, .ref t]) hz) hz upd_same
    have yz : (upd Ht z (.lst [.ref m, .ref n, .ref o, .ref r, .ref t])) z = some (.lst [.ref m, .ref n, .ref o, .ref r, .ref t]) := upd_same
    have onz := on.same sz
    clear on
    have on := onz
    clear onz
    revert wz sz zz yz on
    generalize upd Ht z (.lst [.ref m, .ref n, .ref o, .ref r, .ref t]) = Hz
    generalize upd Dt z (.lst [.ref m, .ref n, .ref o, .ref r, .ref t]) = Dz
    intro wz sz zz yz on
    have kz := Same.refl Dz
    have kt := sz.trans kz
    have kt2 := st.trans kt
    have kt1 := st2.trans kt2
    have kt0 := st1.trans kt1
    have kr := st0.trans kt0
    have kr2 := sr.trans kr
    have kr1 := sr2.trans kr2
    have kr0 := sr1.trans kr1
    have ko := sr0.trans kr0
    have ko2 := so.trans ko
    have ko1 := so2.trans ko2
    have ko0 := so1.trans ko1
    have kn := so0.trans ko0
    have kn2 := sn.trans kn
    have kn1 := sn2.trans kn2
    have kn0 := sn1.trans kn1
    have km := sn0.trans kn0
    have km2 := sm.trans km
    have km1 := sm2.trans km2
    have km0 := sm1.trans km1
    have sA := sm0.trans km0
    have hLz := wz.s _ _ (sA _ _ zL)
    have vv2 : ∀ u ∈ us ++ [V.ref m, .ref n, .ref o, .ref r, .ref t], Vv K C (del Dz L) u := by
      intro u hu
      rcases List.mem_append.mp hu with hu | hu
      · exact (vv u hu).same (same_del L0 (sL.trans sA))
      · simp only [List.mem_cons, List.not_mem_nil, or_false] at hu
        rcases hu with rfl | rfl | rfl | rfl | rfl
        · exact .inl ((tm.same (same_dd km)).up (by decide))
        · exact .inl ((tn.same (same_dd kn)).up (by decide))
        · exact .inl ((to.same (same_dd ko)).up (by decide))
        · exact .inl ((tr.same (same_dd kr)).up (by decide))
        · exact .inl ((tt.same (same_dd kt)).up (by decide))
    have len2 : (us ++ [V.ref m, .ref n, .ref o, .ref r, .ref t]).length = 21 := by rw [List.length_append, len]; rfl
    refine ⟨L, z, us, _, rfl, rfl, hLz, yz, by rw [len]; show 16 + 5 ≤ sizeLine; decide, ?_⟩
    have wB := (wz.del (L := L)).over (o := .lst (us ++ [V.ref m, .ref n, .ref o, .ref r, .ref t])) del_at Lp
    have hB : (upd Hz L (.lst (us ++ [V.ref m, .ref n, .ref o, .ref r, .ref t]))) L = some (.lst (us ++ [V.ref m, .ref n, .ref o, .ref r, .ref t])) := upd_same
    have sB : Same D (del Dz L) := sD.trans (same_del L0 (sL.trans sA))
    have nB : (del Dz L) L = none := del_at
    clear vv len sD sL zL sA hLz on w0 h0 L0 wA km0 km1 km2 km kn0 kn1 kn2 kn ko0 ko1 ko2 ko kr0 kr1 kr2 kr kt0 kt1 kt2 kt kz sm0 sm1 sm2 sm sn0 sn1 sn2 sn so0 so1 so2 so sr0 sr1 sr2 sr st0 st1 st2 st sz wm0 wm1 wm2 wm wn0 wn1 wn2 wn wo0 wo1 wo2 wo wr0 wr1 wr2 wr wt0 wt1 wt2 wt wz tm0 tm1 tm2 tm tn0 tn1 tn2 tn to0 to1 to2 to tr0 tr1 tr2 tr tt0 tt1 tt2 tt yz zz wL
    revert vv2 len2 wB hB sB nB
    generalize us ++ [V.ref m, .ref n, .ref o, .ref r, .ref t] = us1
    generalize upd Hz L (.lst us1) = H10
    generalize del Dz L = D10
    intro vv len wB hB sB nB
    -- six turns
    refine ⟨6, rfl, by decide, by decide, for_range (n := 6) (fun i σ H' => ∃ (D1 : Hp) (us : List V) (y2 y3 y4 : Option V), σ = [some (.ref p), some (.ref L), y2, y3, y4, none, none, none, none, none, none] ∧ Same D D1 ∧ D1 L = none ∧ Wd p D1 H' ∧ H' L = some (.lst us) ∧ us.length = 21 + 6 * i ∧ ∀ u ∈ us, Vv K C D1 u) ⟨D10, us1, none, none, none, rfl, sB, nB, wB, hB, len, vv⟩ ?_ ?_⟩
    · clear vv len wB hB sB nB
      rintro i σ H1 hi ⟨D1, us, y2, y3, y4, rfl, s1, n1, w1, h1, l1, v1⟩
      have sL := same_new (o := .lst us) n1
      have wL := w1.got n1 Lp h1
      have zL : (upd D1 L (.lst us)) L = some (.lst us) := upd_same
      revert wL sL zL
      generalize upd D1 L (.lst us) = DL
      intro sL wL zL
      have l6 : 6 < us.length := by omega
      -- a point, a table
      refine ⟨_, rfl, p, 4, _, rfl, wL, by decide, by decide, fun x2 D2 H2 s2 w2 hv2 => ?_⟩
      obtain ⟨q0, a, b, c, rfl, hq, _, hb⟩ := hv2
      refine ⟨_, rfl, p, _, rfl, w2, fun x3 D3 H3 s3 w3 hv3 => ⟨_, _, rfl, ?_⟩⟩
      obtain ⟨l, q1, q2, q3, rfl, hl, e1, e2, e3⟩ := hv3
      have hq3 := s3 _ _ hq
      have pt3 : TmE K D3 1 (.ref q0) := tm_ints (.inl (SqL.mk hq3)) (show 3 ≤ 6 by decide) fun n hn => by
        have := hb n hn
        exact Nat.lt_of_le_of_lt (show n.natAbs ≤ 4 by omega) (by decide)
      have rt : ∀ {k : Nat}, ∀ u ∈ [V.ref q1, .ref q2, .ref q3], TmE K D3 (k + 1) u := fun {k} u hu => by
        simp only [List.mem_cons, List.not_mem_nil, or_false] at hu
        rcases hu with rfl | rfl | rfl
        · exact e1.tm.up (by omega)
        · exact e2.tm.up (by omega)
        · exact e3.tm.up (by omega)
      have tb3 : TmE K D3 2 (.ref l) := tm_seq (.inl (SqL.mk hl)) (show 3 ≤ 6 by decide) (rt (k := 0))
      have s23 := s2.trans s3
      have hL3 := w3.s _ _ (s23 _ _ zL)
      -- its own place, the bent point
      refine ⟨_, rfl, .inl ⟨rfl, _, SqL.mk hL3⟩, _, rfl, _, rfl, _, rfl, p, q0, D3, _, rfl, w3, .inl (SqL.mk hq3), rfl, p, .inl rfl, fun u hu => ?_, fun x4 D4 H4 s4 w4 hv4 => ?_⟩
      · obtain ⟨n, hn, rfl⟩ := List.mem_map.mp hu
        have := hb n hn
        exact .inl ⟨n, rfl, Nat.lt_of_le_of_lt (show n.natAbs ≤ 4 by omega) (by decide)⟩
      have t4 := (hv4.same del_sub)
      -- the rows, as a tuple
      refine ⟨_, rfl, _, rfl, l, _, rfl, .inl ⟨SqL.mk (w4.s _ _ (s4 _ _ hl)), fun tp htp => ?_⟩⟩
      obtain ⟨w5, s5, z5⟩ := w4.new (same_new (o := .tup [.ref q1, .ref q2, .ref q3]) htp) htp upd_same
      revert w5 s5 z5
      generalize upd D4 tp (.tup [.ref q1, .ref q2, .ref q3]) = D5
      generalize upd H4 tp (.tup [.ref q1, .ref q2, .ref q3]) = H5
      intro w5 s5 z5
      have s35 := s4.trans s5
      have tt5 : TmE K D5 2 (.ref tp) := tm_seq (.inr (SqT.mk z5)) (show 3 ≤ 6 by decide) fun u hu => (rt (k := 0) u hu).same s35
      -- the bent rows
      refine ⟨_, rfl, _, rfl, p, l, D5, rfl, w5, ⟨l, q1, q2, q3, rfl, s35 _ _ hl, e1.same s35, e2.same s35, e3.same s35⟩, fun x6 D6 H6 s6 w6 t6 => ?_⟩
      -- three points
      refine ⟨3, rfl, by decide, by decide, fun M hM => ?_⟩
      have M0 := w6.s.free hM
      have Mp := w6.ne hM
      refine lc_range (n := 3) (fun k H7 => ∃ (D7 : Hp) (qs : List Addr), Same D6 D7 ∧ D7 M = none ∧ Wd p D7 H7 ∧ qs.length = k ∧ (∀ q ∈ qs, Row3 D7 q) ∧ H7 M = some (.lst (qs.map V.ref))) ⟨D6, [], Same.refl _, M0, w6.over M0 Mp, rfl, (fun _ z => nomatch z), upd_same⟩ ?_ ?_
      · rintro k H7 hk ⟨D7, qs, s7, n7, w7, el, hqs, h7⟩
        refine ⟨rfl, yes_ite ?_⟩
        refine ⟨_, rfl, p, 2, _, rfl, w7.got n7 Mp h7, by decide, by decide, fun v D8 H8 s8 w8 hv => ?_⟩
        obtain ⟨z, a', b', c', rfl, hv, _, hb'⟩ := hv
        have hM8 : D8 M = some (.lst (qs.map V.ref)) := s8 _ _ upd_same
        have s78 : Same D7 D8 := (same_new n7).trans s8
        have zM : z ≠ M := fun e => by
          rw [e, hM8] at hv
          cases qs with
          | nil => cases hv
          | cons y ys => cases hv
        refine ⟨_, w8.s _ _ hM8, by rw [List.length_map, sizeLine_eq]; omega, G0.del D8 M, qs ++ [z], same_del M0 (s7.trans s78), del_at, w8.del.over del_at Mp, by rw [List.length_append, el]; rfl, fun y hy => ?_, by rw [upd_same, List.map_append]; rfl⟩
        rcases List.mem_append.mp hy with hy | hy
        · exact (hqs y hy).same (same_del n7 s78)
        · rw [List.mem_singleton.mp hy]
          exact ⟨a', b', c', by rw [del_ne zM]; exact hv, fun n hn => by have := hb' n hn; omega⟩
      rintro H7 ⟨D7, qs, s7, n7, w7, el, hqs, h7⟩
      have w8 := w7.got n7 Mp h7
      have s8 := same_new (o := .lst (qs.map V.ref)) n7
      have z8 : (upd D7 M (.lst (qs.map V.ref))) M = some (.lst (qs.map V.ref)) := upd_same
      revert w8 s8 z8
      generalize upd D7 M (.lst (qs.map V.ref)) = D8
      intro w8 s8 z8
      have tm8 : TmE K D8 2 (.ref M) := tm_seq (.inl (SqL.mk z8)) (by rw [List.length_map]; omega) fun u hu => by
        obtain ⟨y, hy, rfl⟩ := List.mem_map.mp hu
        exact ((hqs y hy).same s8).tm
      -- all six
      refine ⟨by show 6 ≤ sizeLine; decide, fun N hN => ?_⟩
      obtain ⟨w9, s9, z9⟩ := w8.new (same_new (o := .lst [.ref q0, x4, .ref l, .ref tp, x6, .ref M]) hN) hN upd_same
      have y9 : (upd H7 N (.lst [.ref q0, x4, .ref l, .ref tp, x6, .ref M])) N = some (.lst [.ref q0, x4, .ref l, .ref tp, x6, .ref M]) := upd_same
      revert w9 s9 z9 y9
      generalize upd D8 N (.lst [.ref q0, x4, .ref l, .ref tp, x6, .ref M]) = D9
      generalize upd H7 N (.lst [.ref q0, x4, .ref l, .ref tp, x6, .ref M]) = H9
      intro w9 s9 z9 y9
      have k6 := (s7.trans s8).trans s9
      have k5 := s6.trans k6
      have k4 := s5.trans k5
      have k3 := s4.trans k4
      have kL := s23.trans k3
      have zL9 := kL _ _ zL
      have v9 : ∀ u ∈ us ++ [V.ref q0, x4, .ref l, .ref tp, x6, .ref M], Vv K C (del D9 L) u := by
        intro u hu
        rcases List.mem_append.mp hu with hu | hu
        · exact (v1 u hu).same (same_del n1 (sL.trans kL))
        · simp only [List.mem_cons, List.not_mem_nil, or_false] at hu
          rcases hu with rfl | rfl | rfl | rfl | rfl | rfl
          · exact .inl (((pt3.same k3).off zL9 l6).up (by decide))
          · exact .inl (((t4.same k4).off zL9 l6).up (by decide))
          · exact .inl (((tb3.same k3).off zL9 l6).up (by decide))
          · exact .inl (((tt5.same k5).off zL9 l6).up (by decide))
          · exact .inl ((t6.same k6).off zL9 l6)
          · exact .inl (((tm8.same s9).off zL9 l6).up (by decide))
      refine ⟨L, N, us, _, rfl, rfl, w9.s _ _ zL9, y9, by show us.length + 6 ≤ sizeLine; rw [sizeLine_eq]; omega, ?_⟩
      exact ⟨del D9 L, _, _, _, _, rfl, s1.trans (same_del n1 (sL.trans kL)), del_at, (w9.del (L := L)).over del_at Lp, upd_same, by rw [List.length_append, l1]; show 21 + 6 * i + 6 = _; omega, v9⟩
    · clear vv len wB hB sB nB
      rintro σ H1 ⟨D1, us, y2, y3, y4, rfl, s1, n1, w1, h1, l1, v1⟩
      refine ⟨_, rfl, L, rfl, ⟨_, SqL.mk h1⟩, for_list (xs := us) (fun i σ H2 => ∃ y5 y6 y7 y8 y9 y10, σ = [some (.ref p), some (.ref L), y2, y3, y4, y5, y6, y7, y8, y9, y10] ∧ Same H1 H2) ⟨_, _, _, _, _, _, rfl, Same.refl _⟩ (fun i σ H2 _ h => ?_) (fun i u σ H2 hu h => ?_) (fun σ H2 h => ?_)⟩
      · obtain ⟨_, _, _, _, _, _, rfl, s2⟩ := h
        exact SqL.mk (s2 _ _ h1)
      · obtain ⟨y5, y6, y7, y8, y9, y10, rfl, s2⟩ := h
        have vu := (v1 u (List.mem_of_getElem? hu)).same (w1.s.trans s2)
        obtain ⟨x, ok, av⟩ := vu.av IA
        obtain ⟨z, vz⟩ := vu.text
        refine ⟨_, rfl, u, z, rfl, vz, ?_⟩
        refine ⟨_, rfl, u, x, rfl, av _ (Same.refl _), ok.len, fun H3 s3 => ?_⟩
        refine ⟨_, rfl, rfl, u, x, rfl, av _ s3, ok.len, fun H4 s4 => ?_⟩
        have s24 := s3.trans s4
        refine ⟨_, rfl, u, x, rfl, av _ s24, ok, fun H5 s5 => ?_⟩
        have s25 := s24.trans s5
        refine ⟨_, rfl, rfl, u, x, rfl, av _ s25, ok, fun H6 s6 => ?_⟩
        have s26 := s25.trans s6
        refine ⟨by show 4 ≤ sizeLine; decide, fun T hT => ?_⟩
        have s7 := same_new (o := .lst [.bl x.isPoint, .bl x.isPoint, .bl x.isTable, .bl x.isTable]) hT
        have z7 : (upd H6 T (.lst [.bl x.isPoint, .bl x.isPoint, .bl x.isTable, .bl x.isTable])) T = some (.lst [.bl x.isPoint, .bl x.isPoint, .bl x.isTable, .bl x.isTable]) := upd_same
        revert s7 z7
        generalize upd H6 T (.lst [.bl x.isPoint, .bl x.isPoint, .bl x.isTable, .bl x.isTable]) = H7
        intro s7 z7
        have s27 := s26.trans s7
        refine ⟨_, rfl, u, x, rfl, av _ s27, ok.len, fun H8 s8 => ?_⟩
        have s28 := s27.trans s8
        refine ⟨_, rfl, u, x, rfl, av _ s28, ok, fun H9 s9 => ⟨_, _, rfl, ?_⟩⟩
        have s29 := s28.trans s9
        have f4 : Fine (.list [.bool x.isPoint, .bool x.isPoint, .bool x.isTable, .bool x.isTable]) := .lst (dep := 0) (.cons (s1 := 5) rfl rfl (Nat.le_refl _) (Nat.le_refl _) (.cons (s1 := 5) rfl rfl (Nat.le_refl _) (Nat.le_refl _) (.cons (s1 := 5) rfl rfl (Nat.le_refl _) (Nat.le_refl _) (.cons (s1 := 5) rfl rfl (Nat.le_refl _) (Nat.le_refl _) (.nil (sz := 0)))))) (by decide) (by decide)
        have t4 : ∀ {H' : Hp} {A : Addr}, H' A = some (.lst [.bl x.isPoint, .bl x.isPoint, .bl x.isTable, .bl x.isTable]) → Vz K C H' (.ref A) (PyData.list [.bool x.isPoint, .bool x.isPoint, .bool x.isTable, .bool x.isTable]).shown := fun h => .inl ⟨_, .dat (.lst (SqL.mk h) (.cons (.bl _) (.cons (.bl _) (.cons (.bl _) (.cons (.bl _) .nil))))) f4.nd, f4.sh, f4.dep, f4.fit, rfl⟩
        refine ⟨_, rfl, _, _, rfl, t4 ((s8.trans s9) _ _ z7), _, rfl, _, rfl, _, rfl, _, rfl, by show 4 ≤ sizeLine; decide, fun T2 hT2 => ?_⟩
        refine ⟨_, _, rfl, t4 upd_same, ?_⟩
        have s10 := s29.trans (same_new (o := .lst [.bl x.isPoint, .bl x.isPoint, .bl x.isTable, .bl x.isTable]) hT2)
        have ebf : ∀ x : V, (!decide (x = x)) = false := fun x => by simp
        refine ⟨rfl, _, rfl, ?_⟩
        dsimp only
        rw [ebf]
        refine iteF ⟨_, rfl, _, _, rfl, vz.same s10, _, rfl, rfl, _, rfl, ?_⟩
        rw [ebf]
        exact iteF ⟨_, _, _, _, _, _, rfl, s2.trans s10⟩
      · obtain ⟨_, _, _, _, _, _, rfl, s2⟩ := h
        exact q _ ((w1.weak s1).pure s2)
end
end G0

namespace G0
open PySem PySem.Spec PyProof.Rows L2
section
variable {P : Program} {w : World} {K : PySem.W.Frag} {mg : Str → Option Value} {base : Heap}
def sp_law (K : PySem.W.Frag) : Sp := fun vs H Q _ => ∃ (l : Addr) (ns : List Int), vs = [.ref l] ∧ SqL K H l (ns.map V.int) ∧ ns.length ≤ 63 ∧ ∀ H', Q (.bl true) H'
theorem sc_law : FnScope ["_law_script"] ["_law_script"] (defScope s_law) := ⟨rfl, rfl, rfl, by decide +kernel, rfl, by decide +kernel, by decide +kernel⟩
theorem ok_law {f f1 f2 : Addr} {fd fd1 fd2 : FuncData} (F : Fun K "law" "law" s_law f fd) (B : Blt mg) (D1 : Df K mg "_law_pot" s_pot ["_law_script", "_law_k"] f1 fd1) (D2 : Df K mg "_law_right" s_right ["_law_pot_here"] f2 fd2) (G2 : FnG P w K mg base 7 f2 fd2 ["_law_pot_here"] sp_right) : FnG P w K mg base 8 f fd ["_law_script"] (sp_law K) := by
  have G1 : FnOk P w K mg base CX0 1 f1 fd1 ["_law_script", "_law_k"] (sp_pot K) := ok_pot D1.F B
  refine F.okG sc_law (fun vs H Q E h => ?_) (fun cdv A outer s H vs Q E gd hr h => ?_)
  · obtain ⟨l, ns, rfl, _⟩ := h
    rfl
  · obtain ⟨l, ns, rfl, hs, hn, q⟩ := h
    have r1 : Room 1 _ := hr.mono (by decide)
    refine ⟨_, pss_one (ps_ret (pe_callG (E := E0) G2 gd hr (by rfl) D2.g D2.F.kp D2.b .nil (pa_cons (pdf D1 G1 r1 (pa_cons (pv 0) (pa_cons pe_int pa_nil))) pa_nil))), ?_⟩
    exact ⟨_, rfl, l, ns, 0, rfl, hs, hn, by decide, fun H2 p D s2 sD w2 => ⟨p, D, rfl, w2, fun H3 w3 => q _⟩⟩
end
end G0

namespace G0
open PySem PySem.Spec PyProof.Rows L2
/-! ### what the top has written; the head -/
theorem all_mk {l : PySem.W.OpenLaw} {w : World} {K : PySem.W.Frag} {h : Heap} {mg : Str → Option Value} {fa f_isint f_islist f_divisor f_plain f_isthree f_is33 f_dot f_crossed f_det f_ispoint f_tp f_istable f_pot f_draw f_pick f_lsum f_cross f_whole f_point f_given f_ltable f_lip f_lit f_bent f_rbent f_right f_law C_S f_init f_rp : Addr} (X : K.In h) (G : h.Ns mainGlobals mg) (hfa : mg "law" = some (.ref fa))
    {od_isint an_isint : Option Addr} {sl_isint : Array (Option Value)} {oc_isint kV_isint dc_isint pm_isint cd_isint ct_isint : Value}
    {od_islist an_islist : Option Addr} {sl_islist : Array (Option Value)} {oc_islist kV_islist dc_islist pm_islist cd_islist ct_islist : Value}
    {od_divisor an_divisor : Option Addr} {sl_divisor : Array (Option Value)} {oc_divisor kV_divisor dc_divisor pm_divisor cd_divisor ct_divisor : Value}
    {od_plain an_plain : Option Addr} {sl_plain : Array (Option Value)} {oc_plain kV_plain dc_plain pm_plain cd_plain ct_plain : Value}
    {od_isthree an_isthree : Option Addr} {sl_isthree : Array (Option Value)} {oc_isthree kV_isthree dc_isthree pm_isthree cd_isthree ct_isthree : Value}
    {od_is33 an_is33 : Option Addr} {sl_is33 : Array (Option Value)} {oc_is33 kV_is33 dc_is33 pm_is33 cd_is33 ct_is33 : Value}
    {od_dot an_dot : Option Addr} {sl_dot : Array (Option Value)} {oc_dot kV_dot dc_dot pm_dot cd_dot ct_dot : Value}
    {od_crossed an_crossed : Option Addr} {sl_crossed : Array (Option Value)} {oc_crossed kV_crossed dc_crossed pm_crossed cd_crossed ct_crossed : Value}
    {od_det an_det : Option Addr} {sl_det : Array (Option Value)} {oc_det kV_det dc_det pm_det cd_det ct_det : Value}
    {od_ispoint an_ispoint : Option Addr} {sl_ispoint : Array (Option Value)} {oc_ispoint kV_ispoint dc_ispoint pm_ispoint cd_ispoint ct_ispoint : Value}
    {od_tp an_tp : Option Addr} {sl_tp : Array (Option Value)} {oc_tp kV_tp dc_tp pm_tp cd_tp ct_tp : Value}
    {od_istable an_istable : Option Addr} {sl_istable : Array (Option Value)} {oc_istable kV_istable dc_istable pm_istable cd_istable ct_istable : Value}
    {od_pot an_pot : Option Addr} {sl_pot : Array (Option Value)} {oc_pot kV_pot dc_pot pm_pot cd_pot ct_pot : Value}
    {od_draw an_draw : Option Addr} {sl_draw : Array (Option Value)} {oc_draw kV_draw dc_draw pm_draw cd_draw ct_draw : Value}
    {od_pick an_pick : Option Addr} {sl_pick : Array (Option Value)} {oc_pick kV_pick dc_pick pm_pick cd_pick ct_pick : Value}
    {od_lsum an_lsum : Option Addr} {sl_lsum : Array (Option Value)} {oc_lsum kV_lsum dc_lsum pm_lsum cd_lsum ct_lsum : Value}
    {od_cross an_cross : Option Addr} {sl_cross : Array (Option Value)} {oc_cross kV_cross dc_cross pm_cross cd_cross ct_cross : Value}
    {od_whole an_whole : Option Addr} {sl_whole : Array (Option Value)} {oc_whole kV_whole dc_whole pm_whole cd_whole ct_whole : Value}
    {od_point an_point : Option Addr} {sl_point : Array (Option Value)} {oc_point kV_point dc_point pm_point cd_point ct_point : Value}
    {od_given an_given : Option Addr} {sl_given : Array (Option Value)} {oc_given kV_given dc_given pm_given cd_given ct_given : Value}
    {od_ltable an_ltable : Option Addr} {sl_ltable : Array (Option Value)} {oc_ltable kV_ltable dc_ltable pm_ltable cd_ltable ct_ltable : Value}
    {od_lip an_lip : Option Addr} {sl_lip : Array (Option Value)} {oc_lip kV_lip dc_lip pm_lip cd_lip ct_lip : Value}
    {od_lit an_lit : Option Addr} {sl_lit : Array (Option Value)} {oc_lit kV_lit dc_lit pm_lit cd_lit ct_lit : Value}
    {od_bent an_bent : Option Addr} {sl_bent : Array (Option Value)} {oc_bent kV_bent dc_bent pm_bent cd_bent ct_bent : Value}
    {od_rbent an_rbent : Option Addr} {sl_rbent : Array (Option Value)} {oc_rbent kV_rbent dc_rbent pm_rbent cd_rbent ct_rbent : Value}
    {od_right an_right : Option Addr} {sl_right : Array (Option Value)} {oc_right kV_right dc_right pm_right cd_right ct_right : Value}
    {od_law an_law : Option Addr} {sl_law : Array (Option Value)} {oc_law kV_law dc_law pm_law cd_law ct_law : Value}
    {od_init an_init : Option Addr} {sl_init : Array (Option Value)} {oc_init kV_init dc_init pm_init cd_init ct_init : Value}
    {od_rp an_rp : Option Addr} {sl_rp : Array (Option Value)} {oc_rp kV_rp dc_rp pm_rp cd_rp ct_rp : Value}
    {t24 : Tok}
    (a_isint : PySem.W.nsIn K mainGlobals "is_integer" = some (some (.ref f_isint)))
    (l_isint : K.lookup f_isint = some ⟨oc_isint, od_isint, .func (PySem.W.fnOf "is_integer" "is_integer" (defArgs s_is_integer) (defBody s_is_integer) (defScope s_is_integer) .none kV_isint dc_isint pm_isint an_isint cd_isint ct_isint), sl_isint⟩) (c_isint : PySem.W.codeIn K cd_isint "is_integer" = true) (k_isint : PySem.W.keepIn K (.ref f_isint) = true)
    (a_islist : PySem.W.nsIn K mainGlobals "is_list" = some (some (.ref f_islist)))
    (l_islist : K.lookup f_islist = some ⟨oc_islist, od_islist, .func (PySem.W.fnOf "is_list" "is_list" (defArgs s_is_list) (defBody s_is_list) (defScope s_is_list) .none kV_islist dc_islist pm_islist an_islist cd_islist ct_islist), sl_islist⟩) (c_islist : PySem.W.codeIn K cd_islist "is_list" = true) (k_islist : PySem.W.keepIn K (.ref f_islist) = true)
    (a_divisor : PySem.W.nsIn K mainGlobals "divisor" = some (some (.ref f_divisor)))
    (l_divisor : K.lookup f_divisor = some ⟨oc_divisor, od_divisor, .func (PySem.W.fnOf "divisor" "divisor" (defArgs s_divisor) (defBody s_divisor) (defScope s_divisor) .none kV_divisor dc_divisor pm_divisor an_divisor cd_divisor ct_divisor), sl_divisor⟩) (c_divisor : PySem.W.codeIn K cd_divisor "divisor" = true) (k_divisor : PySem.W.keepIn K (.ref f_divisor) = true)
    (a_plain : PySem.W.nsIn K mainGlobals "plain" = some (some (.ref f_plain)))
    (l_plain : K.lookup f_plain = some ⟨oc_plain, od_plain, .func (PySem.W.fnOf "plain" "plain" (defArgs s_plain) (defBody s_plain) (defScope s_plain) .none kV_plain dc_plain pm_plain an_plain cd_plain ct_plain), sl_plain⟩) (c_plain : PySem.W.codeIn K cd_plain "plain" = true) (k_plain : PySem.W.keepIn K (.ref f_plain) = true)
    (a_isthree : PySem.W.nsIn K mainGlobals "is_three" = some (some (.ref f_isthree)))
    (l_isthree : K.lookup f_isthree = some ⟨oc_isthree, od_isthree, .func (PySem.W.fnOf "is_three" "is_three" (defArgs s_is_three) (defBody s_is_three) (defScope s_is_three) .none kV_isthree dc_isthree pm_isthree an_isthree cd_isthree ct_isthree), sl_isthree⟩) (c_isthree : PySem.W.codeIn K cd_isthree "is_three" = true) (k_isthree : PySem.W.keepIn K (.ref f_isthree) = true)
    (a_is33 : PySem.W.nsIn K mainGlobals "is_three_by_three" = some (some (.ref f_is33)))
    (l_is33 : K.lookup f_is33 = some ⟨oc_is33, od_is33, .func (PySem.W.fnOf "is_three_by_three" "is_three_by_three" (defArgs s_is_three_by_three) (defBody s_is_three_by_three) (defScope s_is_three_by_three) .none kV_is33 dc_is33 pm_is33 an_is33 cd_is33 ct_is33), sl_is33⟩) (c_is33 : PySem.W.codeIn K cd_is33 "is_three_by_three" = true) (k_is33 : PySem.W.keepIn K (.ref f_is33) = true)
    (a_dot : PySem.W.nsIn K mainGlobals "dot" = some (some (.ref f_dot)))
    (l_dot : K.lookup f_dot = some ⟨oc_dot, od_dot, .func (PySem.W.fnOf "dot" "dot" (defArgs s_dot) (defBody s_dot) (defScope s_dot) .none kV_dot dc_dot pm_dot an_dot cd_dot ct_dot), sl_dot⟩) (c_dot : PySem.W.codeIn K cd_dot "dot" = true) (k_dot : PySem.W.keepIn K (.ref f_dot) = true)
    (a_crossed : PySem.W.nsIn K mainGlobals "crossed" = some (some (.ref f_crossed)))
    (l_crossed : K.lookup f_crossed = some ⟨oc_crossed, od_crossed, .func (PySem.W.fnOf "crossed" "crossed" (defArgs s_crossed) (defBody s_crossed) (defScope s_crossed) .none kV_crossed dc_crossed pm_crossed an_crossed cd_crossed ct_crossed), sl_crossed⟩) (c_crossed : PySem.W.codeIn K cd_crossed "crossed" = true) (k_crossed : PySem.W.keepIn K (.ref f_crossed) = true)
    (a_det : PySem.W.nsIn K mainGlobals "determinant" = some (some (.ref f_det)))
    (l_det : K.lookup f_det = some ⟨oc_det, od_det, .func (PySem.W.fnOf "determinant" "determinant" (defArgs s_determinant) (defBody s_determinant) (defScope s_determinant) .none kV_det dc_det pm_det an_det cd_det ct_det), sl_det⟩) (c_det : PySem.W.codeIn K cd_det "determinant" = true) (k_det : PySem.W.keepIn K (.ref f_det) = true)
    (a_ispoint : PySem.W.nsIn K mainGlobals "is_point" = some (some (.ref f_ispoint)))
    (l_ispoint : K.lookup f_ispoint = some ⟨oc_ispoint, od_ispoint, .func (PySem.W.fnOf "is_point" "is_point" (defArgs s_is_point) (defBody s_is_point) (defScope s_is_point) .none kV_ispoint dc_ispoint pm_ispoint an_ispoint cd_ispoint ct_ispoint), sl_ispoint⟩) (c_ispoint : PySem.W.codeIn K cd_ispoint "is_point" = true) (k_ispoint : PySem.W.keepIn K (.ref f_ispoint) = true)
    (a_tp : PySem.W.nsIn K mainGlobals "told_point" = some (some (.ref f_tp)))
    (l_tp : K.lookup f_tp = some ⟨oc_tp, od_tp, .func (PySem.W.fnOf "told_point" "told_point" (defArgs s_told_point) (defBody s_told_point) (defScope s_told_point) .none kV_tp dc_tp pm_tp an_tp cd_tp ct_tp), sl_tp⟩) (c_tp : PySem.W.codeIn K cd_tp "told_point" = true) (k_tp : PySem.W.keepIn K (.ref f_tp) = true)
    (a_istable : PySem.W.nsIn K mainGlobals "is_table" = some (some (.ref f_istable)))
    (l_istable : K.lookup f_istable = some ⟨oc_istable, od_istable, .func (PySem.W.fnOf "is_table" "is_table" (defArgs s_is_table) (defBody s_is_table) (defScope s_is_table) .none kV_istable dc_istable pm_istable an_istable cd_istable ct_istable), sl_istable⟩) (c_istable : PySem.W.codeIn K cd_istable "is_table" = true) (k_istable : PySem.W.keepIn K (.ref f_istable) = true)
    (a_pot : PySem.W.nsIn K mainGlobals "_law_pot" = some (some (.ref f_pot)))
    (l_pot : K.lookup f_pot = some ⟨oc_pot, od_pot, .func (PySem.W.fnOf "_law_pot" "_law_pot" (defArgs s_pot) (defBody s_pot) (defScope s_pot) .none kV_pot dc_pot pm_pot an_pot cd_pot ct_pot), sl_pot⟩) (c_pot : PySem.W.codeIn K cd_pot "_law_pot" = true) (k_pot : PySem.W.keepIn K (.ref f_pot) = true)
    (a_draw : PySem.W.nsIn K mainGlobals "_law_draw" = some (some (.ref f_draw)))
    (l_draw : K.lookup f_draw = some ⟨oc_draw, od_draw, .func (PySem.W.fnOf "_law_draw" "_law_draw" (defArgs s_draw) (defBody s_draw) (defScope s_draw) .none kV_draw dc_draw pm_draw an_draw cd_draw ct_draw), sl_draw⟩) (c_draw : PySem.W.codeIn K cd_draw "_law_draw" = true) (k_draw : PySem.W.keepIn K (.ref f_draw) = true)
    (a_pick : PySem.W.nsIn K mainGlobals "_law_pick" = some (some (.ref f_pick)))
    (l_pick : K.lookup f_pick = some ⟨oc_pick, od_pick, .func (PySem.W.fnOf "_law_pick" "_law_pick" (defArgs s_pick) (defBody s_pick) (defScope s_pick) .none kV_pick dc_pick pm_pick an_pick cd_pick ct_pick), sl_pick⟩) (c_pick : PySem.W.codeIn K cd_pick "_law_pick" = true) (k_pick : PySem.W.keepIn K (.ref f_pick) = true)
    (a_lsum : PySem.W.nsIn K mainGlobals "_law_sum" = some (some (.ref f_lsum)))
    (l_lsum : K.lookup f_lsum = some ⟨oc_lsum, od_lsum, .func (PySem.W.fnOf "_law_sum" "_law_sum" (defArgs s_lsum) (defBody s_lsum) (defScope s_lsum) .none kV_lsum dc_lsum pm_lsum an_lsum cd_lsum ct_lsum), sl_lsum⟩) (c_lsum : PySem.W.codeIn K cd_lsum "_law_sum" = true) (k_lsum : PySem.W.keepIn K (.ref f_lsum) = true)
    (a_cross : PySem.W.nsIn K mainGlobals "_law_cross" = some (some (.ref f_cross)))
    (l_cross : K.lookup f_cross = some ⟨oc_cross, od_cross, .func (PySem.W.fnOf "_law_cross" "_law_cross" (defArgs s_cross) (defBody s_cross) (defScope s_cross) .none kV_cross dc_cross pm_cross an_cross cd_cross ct_cross), sl_cross⟩) (c_cross : PySem.W.codeIn K cd_cross "_law_cross" = true) (k_cross : PySem.W.keepIn K (.ref f_cross) = true)
    (a_whole : PySem.W.nsIn K mainGlobals "_law_whole" = some (some (.ref f_whole)))
    (l_whole : K.lookup f_whole = some ⟨oc_whole, od_whole, .func (PySem.W.fnOf "_law_whole" "_law_whole" (defArgs s_lwhole) (defBody s_lwhole) (defScope s_lwhole) .none kV_whole dc_whole pm_whole an_whole cd_whole ct_whole), sl_whole⟩) (c_whole : PySem.W.codeIn K cd_whole "_law_whole" = true) (k_whole : PySem.W.keepIn K (.ref f_whole) = true)
    (a_point : PySem.W.nsIn K mainGlobals "_law_point" = some (some (.ref f_point)))
    (l_point : K.lookup f_point = some ⟨oc_point, od_point, .func (PySem.W.fnOf "_law_point" "_law_point" (defArgs s_point) (defBody s_point) (defScope s_point) .none kV_point dc_point pm_point an_point cd_point ct_point), sl_point⟩) (c_point : PySem.W.codeIn K cd_point "_law_point" = true) (k_point : PySem.W.keepIn K (.ref f_point) = true)
    (a_given : PySem.W.nsIn K mainGlobals "_law_given" = some (some (.ref f_given)))
    (l_given : K.lookup f_given = some ⟨oc_given, od_given, .func (PySem.W.fnOf "_law_given" "_law_given" (defArgs s_given) (defBody s_given) (defScope s_given) .none kV_given dc_given pm_given an_given cd_given ct_given), sl_given⟩) (c_given : PySem.W.codeIn K cd_given "_law_given" = true) (k_given : PySem.W.keepIn K (.ref f_given) = true)
    (a_ltable : PySem.W.nsIn K mainGlobals "_law_table" = some (some (.ref f_ltable)))
    (l_ltable : K.lookup f_ltable = some ⟨oc_ltable, od_ltable, .func (PySem.W.fnOf "_law_table" "_law_table" (defArgs s_ltable) (defBody s_ltable) (defScope s_ltable) .none kV_ltable dc_ltable pm_ltable an_ltable cd_ltable ct_ltable), sl_ltable⟩) (c_ltable : PySem.W.codeIn K cd_ltable "_law_table" = true) (k_ltable : PySem.W.keepIn K (.ref f_ltable) = true)
    (a_lip : PySem.W.nsIn K mainGlobals "_law_is_point" = some (some (.ref f_lip)))
    (l_lip : K.lookup f_lip = some ⟨oc_lip, od_lip, .func (PySem.W.fnOf "_law_is_point" "_law_is_point" (defArgs s_lis_point) (defBody s_lis_point) (defScope s_lis_point) .none kV_lip dc_lip pm_lip an_lip cd_lip ct_lip), sl_lip⟩) (c_lip : PySem.W.codeIn K cd_lip "_law_is_point" = true) (k_lip : PySem.W.keepIn K (.ref f_lip) = true)
    (a_lit : PySem.W.nsIn K mainGlobals "_law_is_table" = some (some (.ref f_lit)))
    (l_lit : K.lookup f_lit = some ⟨oc_lit, od_lit, .func (PySem.W.fnOf "_law_is_table" "_law_is_table" (defArgs s_lis_table) (defBody s_lis_table) (defScope s_lis_table) .none kV_lit dc_lit pm_lit an_lit cd_lit ct_lit), sl_lit⟩) (c_lit : PySem.W.codeIn K cd_lit "_law_is_table" = true) (k_lit : PySem.W.keepIn K (.ref f_lit) = true)
    (a_bent : PySem.W.nsIn K mainGlobals "_law_bent" = some (some (.ref f_bent)))
    (l_bent : K.lookup f_bent = some ⟨oc_bent, od_bent, .func (PySem.W.fnOf "_law_bent" "_law_bent" (defArgs s_lbent) (defBody s_lbent) (defScope s_lbent) .none kV_bent dc_bent pm_bent an_bent cd_bent ct_bent), sl_bent⟩) (c_bent : PySem.W.codeIn K cd_bent "_law_bent" = true) (k_bent : PySem.W.keepIn K (.ref f_bent) = true)
    (a_rbent : PySem.W.nsIn K mainGlobals "_law_rows_bent" = some (some (.ref f_rbent)))
    (l_rbent : K.lookup f_rbent = some ⟨oc_rbent, od_rbent, .func (PySem.W.fnOf "_law_rows_bent" "_law_rows_bent" (defArgs s_rbent) (defBody s_rbent) (defScope s_rbent) .none kV_rbent dc_rbent pm_rbent an_rbent cd_rbent ct_rbent), sl_rbent⟩) (c_rbent : PySem.W.codeIn K cd_rbent "_law_rows_bent" = true) (k_rbent : PySem.W.keepIn K (.ref f_rbent) = true)
    (a_right : PySem.W.nsIn K mainGlobals "_law_right" = some (some (.ref f_right)))
    (l_right : K.lookup f_right = some ⟨oc_right, od_right, .func (PySem.W.fnOf "_law_right" "_law_right" (defArgs s_right) (defBody s_right) (defScope s_right) .none kV_right dc_right pm_right an_right cd_right ct_right), sl_right⟩) (c_right : PySem.W.codeIn K cd_right "_law_right" = true) (k_right : PySem.W.keepIn K (.ref f_right) = true)
    (a_law : PySem.W.nsIn K mainGlobals "law" = some (some (.ref f_law)))
    (l_law : K.lookup f_law = some ⟨oc_law, od_law, .func (PySem.W.fnOf "law" "law" (defArgs s_law) (defBody s_law) (defScope s_law) .none kV_law dc_law pm_law an_law cd_law ct_law), sl_law⟩) (c_law : PySem.W.codeIn K cd_law "law" = true) (k_law : PySem.W.keepIn K (.ref f_law) = true)
    (a_S : PySem.W.nsIn K mainGlobals "Spots" = some (some (.ref C_S)))
    (a_init : PySem.W.findIn K (.ref C_S) "__init__" = some (some (.ref f_init))) (i_init : PySem.W.isFn K (.ref f_init) = true)
    (l_init : K.lookup f_init = some ⟨oc_init, od_init, .func (PySem.W.fnOf "__init__" "Spots.__init__" (defArgs s_Spots_init) (defBody s_Spots_init) (defScope s_Spots_init) .none kV_init dc_init pm_init an_init cd_init ct_init), sl_init⟩) (c_init : PySem.W.codeIn K cd_init "Spots.__init__" = true) (k_init : PySem.W.keepIn K (.ref f_init) = true)
    (a_rp : PySem.W.findIn K (.ref C_S) "__repr__" = some (some (.ref f_rp))) (i_rp : PySem.W.isFn K (.ref f_rp) = true)
    (l_rp : K.lookup f_rp = some ⟨oc_rp, od_rp, .func (PySem.W.fnOf "__repr__" "Spots.__repr__" (defArgs s_Spots_repr) (defBody s_Spots_repr) (defScope s_Spots_repr) .none kV_rp dc_rp pm_rp an_rp cd_rp ct_rp), sl_rp⟩) (c_rp : PySem.W.codeIn K cd_rp "Spots.__repr__" = true) (k_rp : PySem.W.keepIn K (.ref f_rp) = true)
    (pg_S : PySem.W.plainGet K C_S Str.empty = true) (hd_S : PySem.W.hasDictIn K C_S = true) (po_S : PySem.W.plainOver K C_S = true) (sa_S : PySem.W.findIn K (.ref C_S) "__setattr__" = some (some (.builtin "object.__setattr__"))) (mk_S : PySem.W.makesIn K C_S = true) (kc_S : PySem.W.keepIn K (.ref C_S) = true)
    (n_S_points : PySem.W.findIn K (.ref C_S) "_points" = some none)
    (v_most : PySem.W.nsIn K mainGlobals "MOST_POINTS" = some (some (.int 24 t24)))
    (v_gcd : PySem.W.nsIn K mainGlobals "gcd" = some (some (.builtin "math.gcd")))
    (z_isinstance : PySem.W.nsIn K mainGlobals "isinstance" = some none)
    (z_int : PySem.W.nsIn K mainGlobals "int" = some none)
    (z_bool : PySem.W.nsIn K mainGlobals "bool" = some none)
    (z_list : PySem.W.nsIn K mainGlobals "list" = some none)
    (z_tuple : PySem.W.nsIn K mainGlobals "tuple" = some none)
    (z_len : PySem.W.nsIn K mainGlobals "len" = some none)
    (z_all : PySem.W.nsIn K mainGlobals "all" = some none)
    (z_any : PySem.W.nsIn K mainGlobals "any" = some none)
    (z_abs : PySem.W.nsIn K mainGlobals "abs" = some none)
    (z_max : PySem.W.nsIn K mainGlobals "max" = some none)
    (z_min : PySem.W.nsIn K mainGlobals "min" = some none)
    (z_divmod : PySem.W.nsIn K mainGlobals "divmod" = some none)
    (z_range : PySem.W.nsIn K mainGlobals "range" = some none)
    (z_repr : PySem.W.nsIn K mainGlobals "repr" = some none)
    (z_enumerate : PySem.W.nsIn K mainGlobals "enumerate" = some none)
    (z_zip : PySem.W.nsIn K mainGlobals "zip" = some none)
    (z_sum : PySem.W.nsIn K mainGlobals "sum" = some none)
    (x_ha : PySem.W.findIn K (.ref C_S) "__class__" = some (some (.builtin "object.__class__")))
    (x_hn : PySem.W.specialIn K (.builtin "object.__class__") "__get__" = some (some (.builtin "getset_descriptor.__get__")))
    (x_htk : PySem.W.takesIn K (.builtin "object.__class__") = some true)
    (x_hm : PySem.W.mroIn K C_S (.type "object") = some true)
    (x_mi : PySem.W.mroIn K C_S (.type "int") = some false)
    (x_mb : PySem.W.mroIn K C_S (.type "bool") = some false)
    (x_ml : PySem.W.mroIn K C_S (.type "list") = some false)
    (x_mt : PySem.W.mroIn K C_S (.type "tuple") = some false) :
    ∃ fd : FuncData, (∀ (s : Shared) (v : Value), BindsTo s fd ⟨[v], []⟩ [("_law_script", v)]) ∧ ∀ base : Heap, K.In base → base.Ns mainGlobals mg → FnG l.prog w K mg base 8 fa fd ["_law_script"] (sp_law K) := by
  have e := hfa.symm.trans (PySem.W.mg_of X G a_law)
  cases e
  have F_isint := fun_mk (st := s_is_integer) l_isint c_isint k_isint
  have b_isint := F_isint.binds (ps := ["value"]) fun _ _ _ _ _ _ us hl => match us, hl with | [_], _ => rfl
  have D_isint : Df K mg "is_integer" s_is_integer ["value"] f_isint _ := ⟨F_isint, PySem.W.mg_of X G a_isint, b_isint⟩
  have F_islist := fun_mk (st := s_is_list) l_islist c_islist k_islist
  have b_islist := F_islist.binds (ps := ["value"]) fun _ _ _ _ _ _ us hl => match us, hl with | [_], _ => rfl
  have D_islist : Df K mg "is_list" s_is_list ["value"] f_islist _ := ⟨F_islist, PySem.W.mg_of X G a_islist, b_islist⟩
  have F_divisor := fun_mk (st := s_divisor) l_divisor c_divisor k_divisor
  have b_divisor := F_divisor.binds (ps := ["numbers"]) fun _ _ _ _ _ _ us hl => match us, hl with | [_], _ => rfl
  have D_divisor : Df K mg "divisor" s_divisor ["numbers"] f_divisor _ := ⟨F_divisor, PySem.W.mg_of X G a_divisor, b_divisor⟩
  have F_plain := fun_mk (st := s_plain) l_plain c_plain k_plain
  have b_plain := F_plain.binds (ps := ["numbers"]) fun _ _ _ _ _ _ us hl => match us, hl with | [_], _ => rfl
  have D_plain : Df K mg "plain" s_plain ["numbers"] f_plain _ := ⟨F_plain, PySem.W.mg_of X G a_plain, b_plain⟩
  have F_isthree := fun_mk (st := s_is_three) l_isthree c_isthree k_isthree
  have b_isthree := F_isthree.binds (ps := ["value"]) fun _ _ _ _ _ _ us hl => match us, hl with | [_], _ => rfl
  have D_isthree : Df K mg "is_three" s_is_three ["value"] f_isthree _ := ⟨F_isthree, PySem.W.mg_of X G a_isthree, b_isthree⟩
  have F_is33 := fun_mk (st := s_is_three_by_three) l_is33 c_is33 k_is33
  have b_is33 := F_is33.binds (ps := ["value"]) fun _ _ _ _ _ _ us hl => match us, hl with | [_], _ => rfl
  have D_is33 : Df K mg "is_three_by_three" s_is_three_by_three ["value"] f_is33 _ := ⟨F_is33, PySem.W.mg_of X G a_is33, b_is33⟩
  have F_dot := fun_mk (st := s_dot) l_dot c_dot k_dot
  have b_dot := F_dot.binds (ps := ["numbers", "others"]) fun _ _ _ _ _ _ us hl => match us, hl with | [_, _], _ => rfl
  have D_dot : Df K mg "dot" s_dot ["numbers", "others"] f_dot _ := ⟨F_dot, PySem.W.mg_of X G a_dot, b_dot⟩
  have F_crossed := fun_mk (st := s_crossed) l_crossed c_crossed k_crossed
  have b_crossed := F_crossed.binds (ps := ["one", "other"]) fun _ _ _ _ _ _ us hl => match us, hl with | [_, _], _ => rfl
  have D_crossed : Df K mg "crossed" s_crossed ["one", "other"] f_crossed _ := ⟨F_crossed, PySem.W.mg_of X G a_crossed, b_crossed⟩
  have F_det := fun_mk (st := s_determinant) l_det c_det k_det
  have b_det := F_det.binds (ps := ["rows"]) fun _ _ _ _ _ _ us hl => match us, hl with | [_], _ => rfl
  have D_det : Df K mg "determinant" s_determinant ["rows"] f_det _ := ⟨F_det, PySem.W.mg_of X G a_det, b_det⟩
  have F_ispoint := fun_mk (st := s_is_point) l_ispoint c_ispoint k_ispoint
  have b_ispoint := F_ispoint.binds (ps := ["value"]) fun _ _ _ _ _ _ us hl => match us, hl with | [_], _ => rfl
  have D_ispoint : Df K mg "is_point" s_is_point ["value"] f_ispoint _ := ⟨F_ispoint, PySem.W.mg_of X G a_ispoint, b_ispoint⟩
  have F_tp := fun_mk (st := s_told_point) l_tp c_tp k_tp
  have b_tp := F_tp.binds (ps := ["point"]) fun _ _ _ _ _ _ us hl => match us, hl with | [_], _ => rfl
  have D_tp : Df K mg "told_point" s_told_point ["point"] f_tp _ := ⟨F_tp, PySem.W.mg_of X G a_tp, b_tp⟩
  have F_istable := fun_mk (st := s_is_table) l_istable c_istable k_istable
  have b_istable := F_istable.binds (ps := ["value"]) fun _ _ _ _ _ _ us hl => match us, hl with | [_], _ => rfl
  have D_istable : Df K mg "is_table" s_is_table ["value"] f_istable _ := ⟨F_istable, PySem.W.mg_of X G a_istable, b_istable⟩
  have F_pot := fun_mk (st := s_pot) l_pot c_pot k_pot
  have b_pot := F_pot.binds (ps := ["_law_script", "_law_k"]) fun _ _ _ _ _ _ us hl => match us, hl with | [_, _], _ => rfl
  have D_pot : Df K mg "_law_pot" s_pot ["_law_script", "_law_k"] f_pot _ := ⟨F_pot, PySem.W.mg_of X G a_pot, b_pot⟩
  have F_draw := fun_mk (st := s_draw) l_draw c_draw k_draw
  have b_draw := F_draw.binds (ps := ["_law_pot_here", "_law_many"]) fun _ _ _ _ _ _ us hl => match us, hl with | [_, _], _ => rfl
  have D_draw : Df K mg "_law_draw" s_draw ["_law_pot_here", "_law_many"] f_draw _ := ⟨F_draw, PySem.W.mg_of X G a_draw, b_draw⟩
  have F_pick := fun_mk (st := s_pick) l_pick c_pick k_pick
  have b_pick := F_pick.binds (ps := ["_law_pot_here", "_law_some"]) fun _ _ _ _ _ _ us hl => match us, hl with | [_, _], _ => rfl
  have D_pick : Df K mg "_law_pick" s_pick ["_law_pot_here", "_law_some"] f_pick _ := ⟨F_pick, PySem.W.mg_of X G a_pick, b_pick⟩
  have F_lsum := fun_mk (st := s_lsum) l_lsum c_lsum k_lsum
  have b_lsum := F_lsum.binds (ps := ["_law_one", "_law_other"]) fun _ _ _ _ _ _ us hl => match us, hl with | [_, _], _ => rfl
  have D_lsum : Df K mg "_law_sum" s_lsum ["_law_one", "_law_other"] f_lsum _ := ⟨F_lsum, PySem.W.mg_of X G a_lsum, b_lsum⟩
  have F_cross := fun_mk (st := s_cross) l_cross c_cross k_cross
  have b_cross := F_cross.binds (ps := ["_law_one", "_law_other"]) fun _ _ _ _ _ _ us hl => match us, hl with | [_, _], _ => rfl
  have D_cross : Df K mg "_law_cross" s_cross ["_law_one", "_law_other"] f_cross _ := ⟨F_cross, PySem.W.mg_of X G a_cross, b_cross⟩
  have F_whole := fun_mk (st := s_lwhole) l_whole c_whole k_whole
  have b_whole := F_whole.binds (ps := ["_law_one", "_law_other", "_law_third"]) fun _ _ _ _ _ _ us hl => match us, hl with | [_, _, _], _ => rfl
  have D_whole : Df K mg "_law_whole" s_lwhole ["_law_one", "_law_other", "_law_third"] f_whole _ := ⟨F_whole, PySem.W.mg_of X G a_whole, b_whole⟩
  have F_point := fun_mk (st := s_point) l_point c_point k_point
  have b_point := F_point.binds (ps := ["_law_pot_here", "_law_most"]) fun _ _ _ _ _ _ us hl => match us, hl with | [_, _], _ => rfl
  have D_point : Df K mg "_law_point" s_point ["_law_pot_here", "_law_most"] f_point _ := ⟨F_point, PySem.W.mg_of X G a_point, b_point⟩
  have F_given := fun_mk (st := s_given) l_given c_given k_given
  have b_given := F_given.binds (ps := ["_law_pot_here", "_law_point_here"]) fun _ _ _ _ _ _ us hl => match us, hl with | [_, _], _ => rfl
  have D_given : Df K mg "_law_given" s_given ["_law_pot_here", "_law_point_here"] f_given _ := ⟨F_given, PySem.W.mg_of X G a_given, b_given⟩
  have F_ltable := fun_mk (st := s_ltable) l_ltable c_ltable k_ltable
  have b_ltable := F_ltable.binds (ps := ["_law_pot_here", "_law_most"]) fun _ _ _ _ _ _ us hl => match us, hl with | [_, _], _ => rfl
  have D_ltable : Df K mg "_law_table" s_ltable ["_law_pot_here", "_law_most"] f_ltable _ := ⟨F_ltable, PySem.W.mg_of X G a_ltable, b_ltable⟩
  have F_lip := fun_mk (st := s_lis_point) l_lip c_lip k_lip
  have b_lip := F_lip.binds (ps := ["_law_value"]) fun _ _ _ _ _ _ us hl => match us, hl with | [_], _ => rfl
  have D_lip : Df K mg "_law_is_point" s_lis_point ["_law_value"] f_lip _ := ⟨F_lip, PySem.W.mg_of X G a_lip, b_lip⟩
  have F_lit := fun_mk (st := s_lis_table) l_lit c_lit k_lit
  have b_lit := F_lit.binds (ps := ["_law_value"]) fun _ _ _ _ _ _ us hl => match us, hl with | [_], _ => rfl
  have D_lit : Df K mg "_law_is_table" s_lis_table ["_law_value"] f_lit _ := ⟨F_lit, PySem.W.mg_of X G a_lit, b_lit⟩
  have F_bent := fun_mk (st := s_lbent) l_bent c_bent k_bent
  have b_bent := F_bent.binds (ps := ["_law_pot_here", "_law_value"]) fun _ _ _ _ _ _ us hl => match us, hl with | [_, _], _ => rfl
  have D_bent : Df K mg "_law_bent" s_lbent ["_law_pot_here", "_law_value"] f_bent _ := ⟨F_bent, PySem.W.mg_of X G a_bent, b_bent⟩
  have F_rbent := fun_mk (st := s_rbent) l_rbent c_rbent k_rbent
  have b_rbent := F_rbent.binds (ps := ["_law_pot_here", "_law_rows"]) fun _ _ _ _ _ _ us hl => match us, hl with | [_, _], _ => rfl
  have D_rbent : Df K mg "_law_rows_bent" s_rbent ["_law_pot_here", "_law_rows"] f_rbent _ := ⟨F_rbent, PySem.W.mg_of X G a_rbent, b_rbent⟩
  have F_right := fun_mk (st := s_right) l_right c_right k_right
  have b_right := F_right.binds (ps := ["_law_pot_here"]) fun _ _ _ _ _ _ us hl => match us, hl with | [_], _ => rfl
  have D_right : Df K mg "_law_right" s_right ["_law_pot_here"] f_right _ := ⟨F_right, PySem.W.mg_of X G a_right, b_right⟩
  have F_law := fun_mk (st := s_law) l_law c_law k_law
  have F_init := fun_mk (st := s_Spots_init) l_init c_init k_init
  have b_init := F_init.binds (ps := ["self", "points"]) fun _ _ _ _ _ _ us hl => match us, hl with | [_, _], _ => rfl
  have F_rp := fun_mk (st := s_Spots_repr) l_rp c_rp k_rp
  have b_rp := F_rp.binds (ps := ["self"]) fun _ _ _ _ _ _ us hl => match us, hl with | [_], _ => rfl
  have B : Blt mg := ⟨PySem.W.mg_none_of X G z_isinstance, PySem.W.mg_none_of X G z_int, PySem.W.mg_none_of X G z_bool, PySem.W.mg_none_of X G z_list, PySem.W.mg_none_of X G z_tuple, PySem.W.mg_none_of X G z_len, PySem.W.mg_none_of X G z_all, PySem.W.mg_none_of X G z_any, PySem.W.mg_none_of X G z_abs, PySem.W.mg_none_of X G z_max, PySem.W.mg_none_of X G z_min, PySem.W.mg_none_of X G z_divmod, PySem.W.mg_none_of X G z_range, PySem.W.mg_none_of X G z_repr, PySem.W.mg_none_of X G z_enumerate⟩
  have hG := PySem.W.mg_of X G v_gcd
  have nZ := PySem.W.mg_none_of X G z_zip
  have nS := PySem.W.mg_none_of X G z_sum
  have S : SpTxt K mg C_S := ⟨⟨pg_S, hd_S, po_S, sa_S⟩, n_S_points, PySem.W.mg_of X G a_S, ⟨_, PySem.W.mg_of X G v_most⟩⟩
  have IA : InsAny K C_S := ⟨S.cl, x_ha, x_hn, x_htk, x_hm, kit_own (by decide) x_mi, kit_own (by decide) x_mb, kit_own (by decide) x_ml, kit_own (by decide) x_mt⟩
  have M : Mk K C_S f_init := ⟨mk_S, a_init, i_init, kc_S⟩
  have own : ReprOwn K C_S f_rp := ⟨a_rp, i_rp⟩
  refine ⟨PySem.W.fnOf "law" "law" (defArgs s_law) (defBody s_law) (defScope s_law) .none kV_law dc_law pm_law an_law cd_law ct_law, fun s v => .of_eq rfl, fun base _ _ => ?_⟩
  · have GD : FnOk l.prog w K mg base CX0 1 f_draw _ ["_law_pot_here", "_law_many"] (sp_draw) := ok_draw F_draw B
    have GIL : FnOk l.prog w K mg base CX0 1 f_islist _ ["value"] (sp_is_list K) := ok_is_list F_islist B
    have GIP : FnOk l.prog w K mg base CX0 3 f_ispoint _ ["value"] (sp_is_point K) := ok_is_point F_ispoint B D_isthree D_isint D_islist
    have GPl : FnOk l.prog w K mg base CX0 2 f_plain _ ["numbers"] (sp_plain K) := ok_plain F_plain hG D_divisor
    have GTP : FnOk l.prog w K mg base CX0 4 f_tp _ ["point"] (sp_told_point K) := ok_told_point F_tp B D_ispoint D_plain GIP GPl
    have GI : FnOk l.prog w K mg base CX0 5 f_init _ ["self", "points"] (sp_init K C_S) := ok_init F_init S B D_islist D_ispoint D_tp GIL GIP GTP
    have GPick : FnOk l.prog w K mg base CX0 2 f_pick _ ["_law_pot_here", "_law_some"] (sp_pick K) := ok_pick F_pick B D_draw GD
    have GPoint : FnOk l.prog w K mg base CX0 2 f_point _ ["_law_pot_here", "_law_most"] (sp_point) := ok_point F_point B D_draw GD
    have GGiven : FnOk l.prog w K mg base CX0 2 f_given _ ["_law_pot_here", "_law_point_here"] (sp_given K) := ok_given F_given B D_draw GD
    have GLA : FnOk l.prog w K mg base CX0 1 f_islist _ ["value"] (sp_listA K) := ok_listA F_islist B
    have GTA : FnOk l.prog w K mg base CX0 2 f_isthree _ ["value"] (sp_threeA K) := ok_threeA F_isthree B D_isint D_islist
    have GPA : FnOk l.prog w K mg base CX0 3 f_ispoint _ ["value"] (sp_pointA K) := ok_pointA F_ispoint B D_isthree D_isint D_islist
    have GDot : FnOk l.prog w K mg base CX0 1 f_dot _ ["numbers", "others"] (sp_dot K) := ok_dot F_dot nZ nS
    have GCr : FnOk l.prog w K mg base CX0 1 f_crossed _ ["one", "other"] (sp_crossed K) := ok_crossed F_crossed
    have GDet : FnOk l.prog w K mg base CX0 2 f_det _ ["rows"] (sp_det K) := ok_det F_det D_dot GDot D_crossed GCr
    have G33 : FnOk l.prog w K mg base CX0 3 f_is33 _ ["value"] (sp_tableA K) := ok_33 F_is33 B D_islist GLA D_isthree GTA D_det GDet
    have GIT : FnOk l.prog w K mg base CX0 4 f_istable _ ["value"] (sp_tableA K) := ok_tableA F_istable D_is33 G33
    have GLS : FnOk l.prog w K mg base CX0 1 f_lsum _ ["_law_one", "_law_other"] (sp_dot K) := ok_lsum F_lsum nZ nS
    have GLC : FnOk l.prog w K mg base CX0 1 f_cross _ ["_law_one", "_law_other"] (sp_cross K) := ok_cross F_cross
    have GW : FnOk l.prog w K mg base CX0 2 f_whole _ ["_law_one", "_law_other", "_law_third"] (sp_whole K) := ok_whole F_whole D_lsum GLS D_cross GLC
    have GLip : FnOk l.prog w K mg base CX0 1 f_lip _ ["_law_value"] (sp_pointA K) := ok_lis_point F_lip B
    have GLit : FnOk l.prog w K mg base CX0 3 f_lit _ ["_law_value"] (sp_tableA K) := ok_lis_table F_lit B D_whole GW
    have GTab : FnOk l.prog w K mg base CX0 3 f_ltable _ ["_law_pot_here", "_law_most"] (sp_ltable) := ok_ltable F_ltable B D_draw GD D_pick GPick D_point GPoint D_whole GW
    have GB : FnOk l.prog w K mg base CX0 3 f_bent _ ["_law_pot_here", "_law_value"] (sp_lbent K) := ok_lbent F_bent B D_draw GD D_pick GPick
    have GRB : FnOk l.prog w K mg base CX0 4 f_rbent _ ["_law_pot_here", "_law_rows"] (sp_rbent K) := ok_rbent F_rbent B nZ D_draw GD D_given GGiven D_bent GB
    have K_ispoint : KB (PySem.W.fnOf "is_point" "is_point" (defArgs s_is_point) (defBody s_is_point) (defScope s_is_point) .none kV_ispoint dc_ispoint pm_ispoint an_ispoint cd_ispoint ct_ispoint) ["value"] ["value"] 0 := kb_of F_ispoint (fun _ _ _ _ _ _ us ws h1 h2 => match us, ws, h1, h2 with | [], [_], _, _ => rfl)
    have K_istable : KB (PySem.W.fnOf "is_table" "is_table" (defArgs s_is_table) (defBody s_is_table) (defScope s_is_table) .none kV_istable dc_istable pm_istable an_istable cd_istable ct_istable) ["value"] ["value"] 0 := kb_of F_istable (fun _ _ _ _ _ _ us ws h1 h2 => match us, ws, h1, h2 with | [], [_], _, _ => rfl)
    exact ok_law F_law B D_pot D_right (ok_right F_right B S M GI b_init IA own (ok_repr F_rp S) b_rp D_point GPoint D_ltable GTab D_bent GB D_rbent GRB D_ispoint GPA K_ispoint D_istable GIT K_istable D_lip GLip D_lit GLit)
end G0

open PySem PySem.W PyProof.Rows
set_option maxRecDepth 100000 in
set_option maxHeartbeats 0 in
theorem PySem.Challenge.cw_pointrows_k23_any_value_as_point_or_tabl_holds : PySem.Challenge.rw_pointrows_k23_any_value_as_point_or_tabl.Holds := by
  w_on; o_law; k_head; (case hw => w_witness2)
  k_fill
  refine G0.walk_G (l := PySem.Challenge.rw_pointrows_k23_any_value_as_point_or_tabl) (n := 63) (k := 8) (x := "_law_script") (sp := G0.sp_law) rfl (by decide) rfl ⟨rfl, by decide, by decide⟩ (fun w h Y => PySem.W.kIn_of Y) ?F (fun _ _ a ns hl _ hS => ⟨a, ns, rfl, hS, hl, fun _ => rfl⟩)
  case F =>
    intro w mg fa h KX G hmg
    refine' G0.all_mk KX G hmg ?a_isint ?l_isint ?c_isint ?k_isint ?a_islist ?l_islist ?c_islist ?k_islist ?a_divisor ?l_divisor ?c_divisor ?k_divisor ?a_plain ?l_plain ?c_plain ?k_plain ?a_isthree ?l_isthree ?c_isthree ?k_isthree ?a_is33 ?l_is33 ?c_is33 ?k_is33 ?a_dot ?l_dot ?c_dot ?k_dot ?a_crossed ?l_crossed ?c_crossed ?k_crossed ?a_det ?l_det ?c_det ?k_det ?a_ispoint ?l_ispoint ?c_ispoint ?k_ispoint ?a_tp ?l_tp ?c_tp ?k_tp ?a_istable ?l_istable ?c_istable ?k_istable ?a_pot ?l_pot ?c_pot ?k_pot ?a_draw ?l_draw ?c_draw ?k_draw ?a_pick ?l_pick ?c_pick ?k_pick ?a_lsum ?l_lsum ?c_lsum ?k_lsum ?a_cross ?l_cross ?c_cross ?k_cross ?a_whole ?l_whole ?c_whole ?k_whole ?a_point ?l_point ?c_point ?k_point ?a_given ?l_given ?c_given ?k_given ?a_ltable ?l_ltable ?c_ltable ?k_ltable ?a_lip ?l_lip ?c_lip ?k_lip ?a_lit ?l_lit ?c_lit ?k_lit ?a_bent ?l_bent ?c_bent ?k_bent ?a_rbent ?l_rbent ?c_rbent ?k_rbent ?a_right ?l_right ?c_right ?k_right ?a_law ?l_law ?c_law ?k_law ?a_S ?a_init ?i_init ?l_init ?c_init ?k_init ?a_rp ?i_rp ?l_rp ?c_rp ?k_rp ?pg_S ?hd_S ?po_S ?sa_S ?mk_S ?kc_S ?n_S_points ?v_most ?v_gcd ?z_isinstance ?z_int ?z_bool ?z_list ?z_tuple ?z_len ?z_all ?z_any ?z_abs ?z_max ?z_min ?z_divmod ?z_range ?z_repr ?z_enumerate ?z_zip ?z_sum ?x_ha ?x_hn ?x_htk ?x_hm ?x_mi ?x_mb ?x_ml ?x_mt
    (case a_isint => k_is)
    (case l_isint => k_is)
    (case c_isint => k_is)
    (case k_isint => k_is)
    (case a_islist => k_is)
    (case l_islist => k_is)
    (case c_islist => k_is)
    (case k_islist => k_is)
    (case a_divisor => k_is)
    (case l_divisor => k_is)
    (case c_divisor => k_is)
    (case k_divisor => k_is)
    (case a_plain => k_is)
    (case l_plain => k_is)
    (case c_plain => k_is)
    (case k_plain => k_is)
    (case a_isthree => k_is)
    (case l_isthree => k_is)
    (case c_isthree => k_is)
    (case k_isthree => k_is)
    (case a_is33 => k_is)
    (case l_is33 => k_is)
    (case c_is33 => k_is)
    (case k_is33 => k_is)
    (case a_dot => k_is)
    (case l_dot => k_is)
    (case c_dot => k_is)
    (case k_dot => k_is)
    (case a_crossed => k_is)
    (case l_crossed => k_is)
    (case c_crossed => k_is)
    (case k_crossed => k_is)
    (case a_det => k_is)
    (case l_det => k_is)
    (case c_det => k_is)
    (case k_det => k_is)
    (case a_ispoint => k_is)
    (case l_ispoint => k_is)
    (case c_ispoint => k_is)
    (case k_ispoint => k_is)
    (case a_tp => k_is)
    (case l_tp => k_is)
    (case c_tp => k_is)
    (case k_tp => k_is)
    (case a_istable => k_is)
    (case l_istable => k_is)
    (case c_istable => k_is)
    (case k_istable => k_is)
    (case a_pot => k_is)
    (case l_pot => k_is)
    (case c_pot => k_is)
    (case k_pot => k_is)
    (case a_draw => k_is)
    (case l_draw => k_is)
    (case c_draw => k_is)
    (case k_draw => k_is)
    (case a_pick => k_is)
    (case l_pick => k_is)
    (case c_pick => k_is)
    (case k_pick => k_is)
    (case a_lsum => k_is)
    (case l_lsum => k_is)
    (case c_lsum => k_is)
    (case k_lsum => k_is)
    (case a_cross => k_is)
    (case l_cross => k_is)
    (case c_cross => k_is)
    (case k_cross => k_is)
    (case a_whole => k_is)
    (case l_whole => k_is)
    (case c_whole => k_is)
    (case k_whole => k_is)
    (case a_point => k_is)
    (case l_point => k_is)
    (case c_point => k_is)
    (case k_point => k_is)
    (case a_given => k_is)
    (case l_given => k_is)
    (case c_given => k_is)
    (case k_given => k_is)
    (case a_ltable => k_is)
    (case l_ltable => k_is)
    (case c_ltable => k_is)
    (case k_ltable => k_is)
    (case a_lip => k_is)
    (case l_lip => k_is)
    (case c_lip => k_is)
    (case k_lip => k_is)
    (case a_lit => k_is)
    (case l_lit => k_is)
    (case c_lit => k_is)
    (case k_lit => k_is)
    (case a_bent => k_is)
    (case l_bent => k_is)
    (case c_bent => k_is)
    (case k_bent => k_is)
    (case a_rbent => k_is)
    (case l_rbent => k_is)
    (case c_rbent => k_is)
    (case k_rbent => k_is)
    (case a_right => k_is)
    (case l_right => k_is)
    (case c_right => k_is)
    (case k_right => k_is)
    (case a_law => k_is)
    (case l_law => k_is)
    (case c_law => k_is)
    (case k_law => k_is)
    (case a_S => k_is)
    (case a_init => k_is)
    (case i_init => k_is)
    (case l_init => k_is)
    (case c_init => k_is)
    (case k_init => k_is)
    (case a_rp => k_is)
    (case i_rp => k_is)
    (case l_rp => k_is)
    (case c_rp => k_is)
    (case k_rp => k_is)
    (case pg_S => k_is)
    (case hd_S => k_is)
    (case po_S => k_is)
    (case sa_S => k_is)
    (case mk_S => k_is)
    (case kc_S => k_is)
    (case n_S_points => k_is)
    (case v_most => k_is)
    (case v_gcd => k_is)
    (case z_isinstance => k_is)
    (case z_int => k_is)
    (case z_bool => k_is)
    (case z_list => k_is)
    (case z_tuple => k_is)
    (case z_len => k_is)
    (case z_all => k_is)
    (case z_any => k_is)
    (case z_abs => k_is)
    (case z_max => k_is)
    (case z_min => k_is)
    (case z_divmod => k_is)
    (case z_range => k_is)
    (case z_repr => k_is)
    (case z_enumerate => k_is)
    (case z_zip => k_is)
    (case z_sum => k_is)
    (case x_ha => k_is)
    (case x_hn => k_is)
    (case x_htk => k_is)
    (case x_hm => k_is)
    (case x_mi => k_is)
    (case x_mb => k_is)
    (case x_ml => k_is)
    (case x_mt => k_is)

