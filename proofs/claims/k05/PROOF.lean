import PyProof.Rows.All
import Wide.All
import OpenK.AllK
import Wide.FinOn
import HandS.ForMost
import HandS.IsInst
import HandS.TupAny
import HandS.Flow
import HandS.Wide
import HandS.Codes
import HandS.Style
import HandS.TupLe
import HandS.SortRule
import HandS.SortInts
import HandS.Strs
import HandS.SetFor
import HandS.Star
import HandS.OwnEq
import HandS.Records
import HandS.ClsMeth
import HandS.Property
import HandS.GenYield
import HandS.GenList
import HandS.Small
import PyProof.Conv_bool
import PyProof.CallType
import HandS.FStr
import PyProof.ReprRoads
import HandS.TryOnly
import PySem.Challenge.RW_boxregions_k05_whole_operators
set_option Elab.async false
set_option linter.all false
set_option maxRecDepth 100000
/-! Defs that show data by repr: what they promise holds where no repr is under way around them. -/
namespace Vf
open PySem PySem.Spec PyProof.Rows L2

/-- a def's promise, asked only where nothing is being shown around the call -/
structure FnG (P : Program) (w : World) (K : PySem.W.Frag) (mg : Str → Option Value) (base : Heap) (CX : CXT) (k : Nat) (f : Addr) (fd : FuncData) (ps : List Str) (sp : Sp) : Prop where
  many : ∀ {vs H Q E}, sp vs H Q E → vs.length = ps.length
  goes : ∀ {A : Around} {outer : List Env} {s : Shared} {H : Hp} {args : Args} {us : List Value} {vs : List V} {Q : VK} {E : XK},
    A.guards = some [] → Room k A → Env0 P w K mg base A outer s H → BindsTo s fd args (ps.zip us) → Vals vs us → sp vs H Q E →
    codeAny (model P w) A (.call (.ref f) args) (CR CX outer P w H s Q E) s

section
variable {P : Program} {w : World} {K : PySem.W.Frag} {mg : Str → Option Value} {base : Heap} {CX : CXT} {k : Nat} {f : Addr} {fd : FuncData} {ps : List Str} {sp : Sp}
theorem FnG.of (F : FnOk P w K mg base CX k f fd ps sp) : FnG P w K mg base CX k f fd ps sp :=
  ⟨F.len _ _ _ _, fun _ hr he hb hv hs => F.run _ _ _ _ _ _ _ _ _ hr he hb hv hs⟩
theorem FnG.up {j : Nat} (F : FnG P w K mg base CX j f fd ps sp) (h : j ≤ k) : FnG P w K mg base CX k f fd ps sp :=
  ⟨F.many, fun hg hr he hb hv hs => F.goes hg (hr.mono h) he hb hv hs⟩

/-- the body of a def of the text, walked where nothing is being shown -/
theorem fnG_of {x qual : Str} {st : Stmt} {N : List Str} (F : Fun K x qual st f fd) (S : FnScope N ps (defScope st)) (many : ∀ {vs H Q E}, sp vs H Q E → vs.length = ps.length)
    (walk : ∀ (cdv : Value) (A : Around) (outer : List Env) (s : Shared) (H : Hp) (vs : List V) (Q : VK) (E : XK), A.guards = some [] →
      Room k (A.deeper (envOfC qual (defScope st) s.heap.objs.size f cdv)) → sp vs H Q E →
      ∃ t, PSs (cxOf CX P w K mg base N qual (defScope st) f cdv A outer s H E) (defBody st) t ∧ t { nx := fun _ H' => Q .non H', rt := Q } (start N vs) H) :
    FnG P w K mg base CX (k + 1) f fd ps sp := by
  obtain ⟨clo, odi, kwd, dcs, pmt, ann, cdv, ctx, slo, rfl, look, code⟩ := F.ex
  refine ⟨many, @fun A outer s H args us vs Q E hg hr e0 hb rv hsp => ?_⟩
  have hlen := many hsp
  have KX : K.In s.heap := e0.mod.kin.keeps (fun b o e => (e0.bs b o e).1)
  have nolim : s.heap.NoLimit := e0.mod.nolimit.keeps (fun b o e => (e0.bs b o e).1)
  have kinds : ∀ y ∈ ps.zip us, (defScope st).names.lookup y.1 = some .local ∨
      ((defScope st).names.lookup y.1 = some .cell ∧ ((cellsFrom (s.heap.objs.size + 1) (defScope st).names []).lookup y.1).isSome = true) := by
    rintro ⟨nm, va⟩ hy
    cases S.par nm (List.of_mem_zip hy).1 with
    | inl q => exact Or.inl q
    | inr q => exact Or.inr ⟨q, PySem.W.cellsFrom_some _ _ _ (Or.inl q)⟩
  refine codeAny_call_function hr.depth (KX _ _ look) rfl S.co S.gen rfl (PySem.W.codeRec_of KX code) (hb _ _ _ _ ?_)
  refine wpAny_newFunctionEnv_cells S.kind kinds (fun env henv s1 inc => ?_)
  subst henv
  refine ⟨nolim.keeps inc.toInCall.keep, codeAny_func ?_⟩
  obtain ⟨t, ht, hq⟩ := walk cdv A outer s H vs Q E hg (hr.deeper _) hsp
  have I0 := inv_start (CX := CX) (P := P) (w := w) (K := K) (mg := mg) (base := base) (qual := qual) (f := f) (cd := cdv) (E := E) S hr.hd e0 hlen rv inc
  refine wpAny_mono (ht.run [] s1 (start N vs) H _ I0 hq) (fun fl s' hs => ?_) (fun e s' hs => hs)
  cases fl with
  | ret u =>
    obtain ⟨v, σ', H', J, r1, q⟩ := hs
    exact ⟨v, H', J.os, J.bare, J.base, J.hok, r1, q⟩
  | next =>
    obtain ⟨σ', H', J, q⟩ := hs
    exact ⟨V.non, H', J.os, J.bare, J.base, J.hok, (rfl : Value.none = Value.none), q⟩
  | brk =>
    obtain ⟨_, _, _, q⟩ := hs
    exact q.elim
  | cont =>
    obtain ⟨_, _, _, q⟩ := hs
    exact q.elim
/-- the same for a def that no exception leaves -/
theorem okG {x qual : Str} {st : Stmt} {N : List Str} (F : Fun K x qual st f fd) (S : FnScope N ps (defScope st)) (many : ∀ {vs H Q E}, sp vs H Q E → vs.length = ps.length)
    (walk : ∀ (cdv : Value) (A : Around) (outer : List Env) (s : Shared) (H : Hp) (vs : List V) (Q : VK) (E : XK), A.guards = some [] →
      Room k (A.deeper (envOfC qual (defScope st) s.heap.objs.size f cdv)) → sp vs H Q E →
      ∃ t, PSs (cxOf CX0 P w K mg base N qual (defScope st) f cdv A outer s H E).nox (defBody st) t ∧ t { nx := fun _ H' => Q .non H', rt := Q } (start N vs) H) :
    FnG P w K mg base CX0 (k + 1) f fd ps sp :=
  fnG_of F S many (fun cdv A outer s H vs Q E hg hr hs => by
    obtain ⟨t, h, q⟩ := walk cdv A outer s H vs Q E hg hr hs
    exact ⟨t, h.nox, q⟩)
end

section
variable {X : Cx} {CX : CXT} {k : Nat} {f : Addr} {fd : FuncData} {ps : List Str} {sp : Sp} {dvs : List V} {ds : List Value} {E : XK} {x : Str} {p pos : Pos} {e : Expr} {es : List Expr} {t : TA}
/-- f(..) of such a def -/
theorem pe_callG (F : FnG X.prog X.w X.K X.mg X.base CX k f fd ps sp) (gd : X.A.guards = some []) (hr : Room k X.A) (hg : Gl X x) (hm : X.mg x = some (.ref f)) (hk : PySem.W.keepIn X.K (.ref f) = true) (hb : Binds X.K fd ps ds) (hd : Vals dvs ds)
    (hx : Passes CX X E) (ha : PA X (e :: es) t) (hdb : (x == ("__debug__" : Str)) = false := by decide) (he : starEach (e :: es) X.env = (false, eval e X.env) :: starEach es X.env := by rfl)
    (hpl : (backTo pos (starEach es X.env)).any (·.1) = false := by rfl) : PE X (.Call (.Name x p) (e :: es) [] pos) (tCall sp dvs E t) := by
  constructor
  intro pins s σ H Q I h
  apply wpAny_Call_Name_kw
  refine ld_glob I hg hm ?_ hdb
  refine PySem.W.callWith_K (h₀ := X.base) I.ok.mod.kin hk (thn (ha.run pos pins s σ H _ I h) ?_) he hpl
  rintro us s1 ⟨vs, H1, I1, r1, q1⟩
  refine ⟨I1.kIn, ?_⟩
  have r2 : Vals (vs ++ dvs) (us ++ ds) := r1.append hd
  have many : (us ++ ds).length = ps.length := (r2.length).symm.trans (F.many q1)
  refine wpAny_call (codeAny_mono (F.goes gd hr I1.env0 (hb s1 us I1.kIn many) r2 q1) ?_)
  intro r s' hq
  match r, hq with
  | .error e, hq => exact hx pins σ H1 s1 e s' I1 hq
  | .ok (.ret u), hq => exact I1.after hq
  | .ok .next, hq => exact (show False from hq).elim
  | .ok .brk, hq => exact (show False from hq).elim
  | .ok .cont, hq => exact (show False from hq).elim
end

section
variable {X : Cx}
/-- repr of data, where nothing is being shown around -/
theorem call_repr_data (gd : X.A.guards = some []) (hu : X.A.units + 64 < cLine) : CallR X (.builtin "repr") (fun xs H Q => ∃ v d, xs = [v] ∧ Dp X.K H v d ∧ d.showable = true ∧ d.hasDict = false ∧ d.depth ≤ 60 ∧ d.shown.length ≤ sizeLine ∧ Q (.str d.shown) H) := by
  intro pins s σ H xs us Q I r h
  obtain ⟨v, d, rfl, hd, hs, hn, hdep, hz, q⟩ := h
  obtain ⟨u, rfl, rv⟩ := vals1 r
  obtain ⟨as, rd⟩ := Dp.reads I d v u hd rv
  have nd : d.hasDict = true → sysModules ∉ as := fun z => by
    rw [hn] at z
    cases z
  cases hd with
  | non =>
    cases rv
    exact PySem.P.repr_of_none ⟨.str _, H, I.tok _, ⟨_, rfl⟩, q⟩
  | bl b =>
    cases rv
    exact PySem.P.repr_of_bool ⟨.str _, H, I.tok _, ⟨_, rfl⟩, by cases b <;> exact q⟩
  | int i =>
    obtain ⟨t, rfl⟩ := rv
    exact PySem.P.repr_of_int (of_decide_eq_true hs) ⟨.str _, H, I.tok _, ⟨_, rfl⟩, q⟩
  | str y =>
    obtain ⟨t, rfl⟩ := rv
    exact PySem.P.repr_of_str ⟨.str _, H, I.tok _, ⟨_, rfl⟩, q⟩ hz
  | lst hl ha =>
    cases rv
    exact repr_of_reads' rd hs nd gd (by omega) (fun _ _ e => e) (fun h' u tk hk => ⟨.str _, H, I.kept hk, ⟨_, rfl⟩, q⟩) hz
  | tup hl ha =>
    cases rv
    exact repr_of_reads' rd hs nd gd (by omega) (fun _ _ e => e) (fun h' u tk hk => ⟨.str _, H, I.kept hk, ⟨_, rfl⟩, q⟩) hz
end

/-! ### a law's end, its def walked where nothing is being shown -/
section
variable {P : Program} {w : World} {K : PySem.W.Frag} {mg mb : Str → Option Value} {CX : CXT} {k : Nat} {fa a : Addr} {fd : FuncData} {x : Str} {sp : Sp} {s1 : Shared} {vs : List Value} {ns : List Int}
/-- what a law is asked for -/
abbrev LawEnd (s1 : Shared) : Result → Shared → Prop := fun r s' => r = .ok (.ret (.bool true)) ∧ OldK s1.heap s'.heap ∧ s'.os = s1.os ∧ AllBare s'.gens
/-- from a view of the heap in which the script alone may be tracked, and then is known to its object -/
theorem lawG_at {H : Hp} (KX : K.In s1.heap) (gl : s1.heap.Ns mainGlobals mg) (bt : s1.heap.Ns builtinsNs mb) (bt2 : ∀ x : Str, x ≠ "__name__" → mb x = bootBuiltins x) (nolim : s1.heap.NoLimit) (gens : s1.gens = #[]) (hr : Room k callerA)
    (F : ∀ base : Heap, K.In base → base.Ns mainGlobals mg → FnG P w K mg base CX k fa fd [x] sp) (binds : ∀ (s : Shared) (u : Value), BindsTo s fd ⟨[u], []⟩ [(x, u)])
    (nocx : ∀ H e s', CX [] H s1 (fun _ _ _ => False) e s' → False) (hok : HOk P w H s1.heap) (lone : ∀ b, H b = none ∨ (b = a ∧ ∃ o ys, H b = some (.frz o (.lst ys))))
    (here : ∃ n, s1.heap.get? a = some { cls := .type "list", data := .seq vs.toArray n }) (out : H a ≠ none → K.lookup a = none) (ask : sp [.ref a] H (fun v _ => v = .bl true) fun _ _ _ => False) :
    codeAny (model P w) callerA (.call (.ref fa) ⟨[.ref a], []⟩) (LawEnd s1) s1 := by
  obtain ⟨nA, here⟩ := here
  -- what is read of the module is not tracked
  have off : ∀ {b : Addr} {m : Str → Option Value}, s1.heap.Ns b m → (hidT s1.heap H).Ns b m := by
    rintro b m ⟨o, es, ep, e, d, r⟩
    refine ⟨o, es, ep, hidT_get e ?_, d, r⟩
    rcases lone b with z | ⟨rfl, _⟩
    · exact z
    · rw [here] at e
      cases e
      cases (show Data.seq vs.toArray nA = Data.dict es ep from d)
  have inn : K.In (hidT s1.heap H) := fun b o e => hidT_get (KX b o e) (by
    rcases lone b with z | ⟨rfl, o', ys, z⟩
    · exact z
    · have := out (by rw [z]; simp)
      rw [this] at e
      cases e)
  have lim : (hidT s1.heap H).NoLimit := by
    obtain ⟨mc, h1, h2⟩ := nolim
    exact ⟨mc, off h1, h2⟩
  have e0 : Env0 P w K mg (hidT s1.heap H) callerA [] s1 H :=
    { frames := rfl, mod := ⟨inn, off gl, ⟨mb, off bt, bt2⟩, lim⟩, bs := fun b o e => of_hidT e, bsz := Nat.le_of_eq (hidT_size _ _), funs := trivial,
      frf := fun b hb => absurd (show b ∈ ([] : List Addr) from hb) (by simp), hok := hok, bare := .of_eq gens }
  have run := (F _ inn (off gl)).goes (A := callerA) (args := ⟨[.ref a], []⟩) (us := [.ref a]) (vs := [.ref a]) rfl hr e0 (binds s1 (.ref a)) (.cons rfl .nil) ask
  refine codeAny_mono run (fun r s' h => ?_)
  match r, h with
  | .error e, h => exact (nocx H e s' h).elim
  | .ok .next, h => exact (show False from h).elim
  | .ok .brk, h => exact (show False from h).elim
  | .ok .cont, h => exact (show False from h).elim
  | .ok (.ret u), h =>
    obtain ⟨v, H', sameOs, bare, un, hok', rv, q⟩ := h
    cases (show v = V.bl true from q)
    cases (show u = Value.bool true from rv)
    refine ⟨rfl, OldK.of_keep (fun b o e => ?_), sameOs, bare⟩
    rcases lone b with z | ⟨_, o', ys, z⟩
    · exact un.keep b o e z (fun m => absurd (show b ∈ ([] : List Addr) from m) (by simp)) (by simp)
    · have h1 := (hok b _ z).1
      have h2 := (hok' b _ (un.frzs b o' _ z)).1
      rw [e] at h1
      cases h1
      exact h2
theorem lawG (KX : K.In s1.heap) (gl : s1.heap.Ns mainGlobals mg) (bt : s1.heap.Ns builtinsNs mb) (bt2 : ∀ x : Str, x ≠ "__name__" → mb x = bootBuiltins x) (nolim : s1.heap.NoLimit) (gens : s1.gens = #[])
    (ha : s1.heap.get? a = some { cls := .type "list", data := .seq vs.toArray }) (whole : IntsAre vs ns) (short : ns.length ≤ sizeLine) (hr : Room k callerA)
    (F : ∀ base : Heap, K.In base → base.Ns mainGlobals mg → FnG P w K mg base CX k fa fd [x] sp) (binds : ∀ (s : Shared) (u : Value), BindsTo s fd ⟨[u], []⟩ [(x, u)])
    (ask : ∀ H : Hp, Only H → SqL K H a (ns.map V.int) → sp [.ref a] H (fun v _ => v = .bl true) fun _ _ _ => False)
    (nocx : ∀ H e s', CX [] H s1 (fun _ _ _ => False) e s' → False) : codeAny (model P w) callerA (.call (.ref fa) ⟨[.ref a], []⟩) (LawEnd s1) s1 := by
  have rv := vals_ints whole
  have many := whole.length
  cases hk : K.lookup a with
  | some o =>
    -- the script stands in the module's own part
    have e := KX a o hk
    rw [ha] at e
    cases e
    refine lawG_at (H := fun _ => none) KX gl bt bt2 nolim gens hr F binds nocx (fun b u z => by cases z) (fun b => .inl rfl) ⟨_, ha⟩ (fun z => absurd rfl z) (ask _ (fun b => .inl rfl) ?_)
    exact .inr ⟨_, vs.toArray, _, hk, rfl, rfl, rfl, (by rw [List.size_toArray, many]; exact short), by simpa using rv⟩
  | none =>
    have at_a : ∀ {b : Addr} {u : HO}, (if b = a then some (HO.frz { cls := .type "list", data := .seq vs.toArray } (.lst (ns.map V.int))) else none) = some u → b = a ∧ u = .frz { cls := .type "list", data := .seq vs.toArray } (.lst (ns.map V.int)) := by
      intro b u z
      by_cases hb : b = a
      · rw [if_pos hb] at z
        exact ⟨hb, (Option.some.inj z).symm⟩
      · rw [if_neg hb] at z
        cases z
    refine lawG_at (H := fun b => if b = a then some (.frz { cls := .type "list", data := .seq vs.toArray } (.lst (ns.map V.int))) else none) KX gl bt bt2 nolim gens hr F binds nocx (fun b u z => ?_) (fun b => ?_) ⟨_, ha⟩ (fun _ => hk) (ask _ (fun b => ?_) ?_)
    · obtain ⟨rfl, rfl⟩ := at_a z
      exact ⟨ha, by rw [List.length_map]; exact short, vs, _, rv, ha⟩
    · by_cases hb : b = a
      · exact .inr ⟨hb, _, _, if_pos hb⟩
      · exact .inl (if_neg hb)
    · by_cases hb : b = a
      · exact .inr ⟨_, _, if_pos hb⟩
      · exact .inl (if_neg hb)
    · exact .inl (.inr ⟨_, if_pos rfl⟩)
end
/-- the goal that k_head leaves -/
theorem walkG {l : PySem.W.OpenLaw} {n k : Nat} {q : Program} {loose : List Str} {XP : (Str → Option Value) → Heap → Prop} {YP : World → Heap → Prop} {d : DefRec} {K : Params → PySem.W.Frag} {CX : CXT} {sp : PySem.W.Frag → Sp} {x : Str}
    (hn : l.most = some n) (hn2 : n ≤ sizeLine) (nodef : d.params.defaults = []) (hr : Room k callerA) (hY : ∀ (w : World) (h : Heap), YP w h → (K w.params).In h)
    (F : ∀ (w : World) (mg : Str → Option Value) (fa : Addr) (h : Heap), (K w.params).In h → h.Ns mainGlobals mg → mg d.name = some (.ref fa) →
      ∃ fd : FuncData, (∀ (s : Shared) (u : Value), BindsTo s fd ⟨[u], []⟩ [(x, u)]) ∧ ∀ base : Heap, (K w.params).In base → base.Ns mainGlobals mg → FnG l.prog w (K w.params) mg base CX k fa fd [x] (sp (K w.params)))
    (ask : ∀ (K : PySem.W.Frag) (H : Hp) (a : Addr) (ns : List Int), ns.length ≤ n → Only H → SqL K H a (ns.map V.int) → sp K [.ref a] H (fun v _ => v = .bl true) fun _ _ _ => False)
    (nocx : ∀ (H : Hp) (s : Shared) (e : Value) (s' : Shared), CX [] H s (fun _ _ _ => False) e s' → False) : PySem.W.WalkO q loose XP YP l.row.toRowW d [] (fun f vs => PySem.call f vs) := by
  refine Att.attach_call hn nodef (fun w s0 s1 mg mb fa o pm cd doc a vs ns G Y ho hd hcd hmg hobj hints hlen gens => ?_)
  have KX := hY w _ Y
  obtain ⟨fd, hb, hF⟩ := F w mg fa _ KX G.T.g hmg
  exact lawG KX G.T.g G.T.b G.T.builtins G.T.nolimit gens hobj hints (Nat.le_trans hlen hn2) hr hF hb (fun H hO hS => ask _ H a ns hlen hO hS) (fun H e s' => nocx H s1 e s')
end Vf

set_option Elab.async false
set_option linter.all false
set_option maxRecDepth 100000
/-! Data in the abstract heap: what stays, its kinds; a list that is set aside. -/
namespace Vf
open PySem PySem.Spec PyProof.Rows L2

section
variable {K : PySem.W.Frag} {H H' : Hp}
theorem sqT_same {a : Addr} {xs : List V} (e : Same H H') (h : SqT K H a xs) : SqT K H' a xs := by
  rcases h with (h | ⟨o, h⟩) | h
  · exact .inl (.inl (e _ _ h))
  · exact .inl (.inr ⟨o, e _ _ h⟩)
  · exact .inr h
mutual
theorem dp_same (e : Same H H') : ∀ {d : PyData} {v : V}, Dp K H v d → Dp K H' v d
  | .none, _, .non => .non
  | .bool _, _, .bl b => .bl b
  | .int _, _, .int i => .int i
  | .str _, _, .str x => .str x
  | .list _, _, .lst h ha => .lst (e.seq h) (dpAll_same e ha)
  | .tuple _, _, .tup h ha => .tup (sqT_same e h) (dpAll_same e ha)
theorem dpAll_same (e : Same H H') : ∀ {ds : List PyData} {vs : List V}, DpAll K H vs ds → DpAll K H' vs ds
  | [], _, .nil => .nil
  | _ :: _, _, .cons h t => .cons (dp_same e h) (dpAll_same e t)
end
theorem dpAll_len : ∀ {ds : List PyData} {vs : List V}, DpAll K H vs ds → vs.length = ds.length
  | [], _, .nil => rfl
  | _ :: _, _, .cons _ t => congrArg (· + 1) (dpAll_len t)
theorem dpAll_get : ∀ {ds : List PyData} {vs : List V} {i : Nat} {v : V}, DpAll K H vs ds → vs[i]? = some v → ∃ d, ds[i]? = some d ∧ Dp K H v d
  | [], _, _, _, .nil, h => by simp at h
  | d :: _, _, 0, _, .cons hd _, h => by
    simp at h
    subst h
    exact ⟨d, rfl, hd⟩
  | _ :: _, _, i + 1, _, .cons _ t, h => by
    obtain ⟨d, h1, h2⟩ := dpAll_get (i := i) t (by simpa using h)
    exact ⟨d, by simpa using h1, h2⟩
theorem dpAll_mk : ∀ {ds : List PyData} {vs : List V}, vs.length = ds.length → (∀ (i : Nat) v d, vs[i]? = some v → ds[i]? = some d → Dp K H v d) → DpAll K H vs ds
  | [], [], _, _ => .nil
  | [], _ :: _, h, _ => by simp at h
  | _ :: _, [], h, _ => by simp at h
  | d :: ds, v :: vs, h, f => .cons (f 0 v d rfl rfl) (dpAll_mk (by simpa using h) fun i v d h1 h2 => f (i + 1) v d (by simpa using h1) (by simpa using h2))
theorem dpAll_app : ∀ {ds es : List PyData} {vs us : List V}, DpAll K H vs ds → DpAll K H us es → DpAll K H (vs ++ us) (ds ++ es)
  | [], _, _, _, .nil, h => h
  | _ :: _, _, _, _, .cons a t, h => .cons a (dpAll_app t h)
theorem dpAll_take : ∀ {ds : List PyData} {vs : List V} (n : Nat), DpAll K H vs ds → DpAll K H (vs.take n) (ds.take n)
  | _, _, 0, _ => .nil
  | [], _, _ + 1, .nil => .nil
  | _ :: _, _, n + 1, .cons a t => .cons a (dpAll_take n t)
theorem dpAll_drop : ∀ {ds : List PyData} {vs : List V} (n : Nat), DpAll K H vs ds → DpAll K H (vs.drop n) (ds.drop n)
  | _, _, 0, h => h
  | [], _, _ + 1, .nil => .nil
  | _ :: _, _, n + 1, .cons _ t => dpAll_drop n t
theorem dpAll_rev {ds : List PyData} {vs : List V} (h : DpAll K H vs ds) : DpAll K H vs.reverse ds.reverse := by
  induction ds generalizing vs with
  | nil => cases h; exact .nil
  | cons d ds ih =>
    cases h with
    | cons a t =>
      rw [List.reverse_cons, List.reverse_cons]
      exact dpAll_app (ih t) (.cons a .nil)
theorem dpAll_ints (ns : List Int) : DpAll K H (ns.map V.int) (ns.map PyData.int) := by
  induction ns with
  | nil => exact .nil
  | cons n ns ih => exact .cons (.int n) ih
theorem same_new {p : Addr} {o : HO} (h : H p = none) : Same H (upd H p o) := fun b x e => by
  rw [upd_ne (ne_of_none e h)]
  exact e
theorem sqL_new {p : Addr} {xs : List V} : SqL K (upd H p (.lst xs)) p xs := .inl (.inl upd_same)
theorem sqT_new {p : Addr} {xs : List V} : SqT K (upd H p (.tup xs)) p xs := .inl (.inl upd_same)
end

/-- the name of a datum's built-in class -/
def tyName : PyData → String
  | .none => "NoneType"
  | .bool _ => "bool"
  | .int _ => "int"
  | .str _ => "str"
  | .list _ => "list"
  | .tuple _ => "tuple"
  | .dict _ => "dict"
theorem tyX_dp {K : PySem.W.Frag} {H : Hp} {v : V} {d : PyData} (h : Dp K H v d) : TyX K H v (.type (tyName d)) := by
  cases h with
  | non => exact .base .non
  | bl b => exact .base (.bl b)
  | int i => exact .base (.int i)
  | str x => exact .base (.str x)
  | lst h _ =>
    rcases h with (h | ⟨o, h⟩) | h
    · exact .base (.lst h)
    · exact .base (.frz h)
    · obtain ⟨o, its, n, lk, hc, hd, _⟩ := h
      exact .kList lk (by assumption)
  | tup h _ =>
    rcases h with (h | ⟨o, h⟩) | h
    · exact .base (.tup h)
    · exact .fTuple h
    · obtain ⟨o, its, n, lk, hc, _⟩ := h
      exact .kTuple lk (by assumption)

/-! ### data that can be shown and compared -/
mutual
def nice : PyData → Bool
  | .none => true
  | .bool _ => true
  | .int i => decide (i.natAbs.log2 < 1920)
  | .str x => PyData.strOk x
  | .list ds => niceAll ds
  | .tuple ds => niceAll ds
  | .dict _ => false
def niceAll : List PyData → Bool
  | [] => true
  | d :: ds => nice d && niceAll ds
end
mutual
/-- no more signs than these are shown -/
def wide : PyData → Nat
  | .none => 5
  | .bool _ => 5
  | .int _ => 1921
  | .str x => 10 * x.length + 2
  | .list ds => wideAll ds + 3
  | .tuple ds => wideAll ds + 3
  | .dict _ => 0
def wideAll : List PyData → Nat
  | [] => 0
  | d :: ds => wide d + 2 + wideAll ds
end
theorem shownAll_len : ∀ ds : List PyData, (PyData.shownAll ds).length = ds.length
  | [] => by simp only [PyData.shownAll, List.length_nil]
  | d :: ds => by simp only [PyData.shownAll, List.length_cons, shownAll_len ds]
mutual
theorem shown_wide : ∀ d : PyData, nice d = true → d.shown.length ≤ wide d
  | .none, _ => by simp only [PyData.shown, wide]; decide +kernel
  | .bool b, _ => by cases b <;> (simp only [PyData.shown, wide]; decide +kernel)
  | .int i, h => by
    simp only [nice] at h
    simp only [PyData.shown, wide]
    exact int_text_len_1921 (of_decide_eq_true h)
  | .str x, h => by
    simp only [nice] at h
    simp only [PyData.shown, wide]
    refine StrLaws.reprText_len x (fun c hc => ?_)
    have h3 := Array.all_eq_true_iff_forall_mem.mp h c (Array.mem_toList_iff.mp hc)
    have h4 : c < 0x110000 := by simpa using h3
    have e : (16 : Nat) ^ 8 = 4294967296 := by decide
    omega
  | .list ds, h => by
    simp only [nice] at h
    simp only [PyData.shown, wide]
    have h1 := listText_len_le (PyData.shownAll ds)
    have h2 := shownAll_wide ds h
    rw [shownAll_len] at h1
    omega
  | .tuple ds, h => by
    simp only [nice] at h
    simp only [PyData.shown, wide]
    have h1 := tupleText_len_le (PyData.shownAll ds)
    have h2 := shownAll_wide ds h
    rw [shownAll_len] at h1
    omega
  | .dict _, h => by
    simp only [nice] at h
    cases h
theorem shownAll_wide : ∀ ds : List PyData, niceAll ds = true → ((PyData.shownAll ds).map (·.length)).sum + 2 * ds.length ≤ wideAll ds
  | [], _ => by simp only [PyData.shownAll, wideAll, List.map_nil, List.sum_nil, List.length_nil]; omega
  | d :: ds, h => by
    simp only [niceAll, Bool.and_eq_true] at h
    have h1 := shown_wide d h.1
    have h2 := shownAll_wide ds h.2
    simp only [PyData.shownAll, wideAll, List.map_cons, List.sum_cons, List.length_cons]
    omega
end
mutual
theorem nice_show : ∀ d : PyData, nice d = true → d.showable = true ∧ d.hasDict = false ∧ d.canLay0 = true
  | .none, _ => by simp only [PyData.showable, PyData.hasDict, PyData.canLay0, and_self]
  | .bool b, _ => by simp only [PyData.showable, PyData.hasDict, PyData.canLay0, and_self]
  | .int i, h => by
    simp only [nice] at h
    simp only [PyData.showable, PyData.hasDict, PyData.canLay0, h, and_self]
  | .str x, h => by
    simp only [nice] at h
    simp only [PyData.showable, PyData.hasDict, PyData.canLay0, h, and_self]
  | .list ds, h => by
    simp only [nice] at h
    simp only [PyData.showable, PyData.hasDict, PyData.canLay0]
    exact niceAll_show ds h
  | .tuple ds, h => by
    simp only [nice] at h
    simp only [PyData.showable, PyData.hasDict, PyData.canLay0]
    exact niceAll_show ds h
  | .dict _, h => by
    simp only [nice] at h
    cases h
theorem niceAll_show : ∀ ds : List PyData, niceAll ds = true → PyData.showableAll ds = true ∧ PyData.hasDictAll ds = false ∧ PyData.canLayAll0 ds = true
  | [], _ => by simp only [PyData.showableAll, PyData.hasDictAll, PyData.canLayAll0, and_self]
  | d :: ds, h => by
    simp only [niceAll, Bool.and_eq_true] at h
    obtain ⟨a1, a2, a3⟩ := nice_show d h.1
    obtain ⟨b1, b2, b3⟩ := niceAll_show ds h.2
    simp only [PyData.showableAll, PyData.hasDictAll, PyData.canLayAll0, a1, a2, a3, b1, b2, b3, Bool.and_self, Bool.or_self, and_self]
end
theorem niceAll_mem : ∀ {ds : List PyData}, niceAll ds = true ↔ ∀ d ∈ ds, nice d = true
  | [] => by simp [niceAll]
  | d :: ds => by simp [niceAll, niceAll_mem (ds := ds)]
theorem shaped_of {d : PyData} (h : nice d = true) (hd : d.depth ≤ 64) : SeqAt.shaped d = true := by
  unfold SeqAt.shaped
  rw [(nice_show d h).2.2, decide_eq_true hd]
  rfl
theorem depthAll_mem {n : Nat} : ∀ {ds : List PyData}, PyData.depthAll ds ≤ n ↔ ∀ d ∈ ds, d.depth ≤ n
  | [] => by simp [PyData.depthAll]
  | d :: ds => by
    simp only [PyData.depthAll, List.mem_cons, forall_eq_or_imp, ← depthAll_mem (ds := ds)]
    omega
theorem eqvAll_nil : ∀ ds : List PyData, PyData.eqvAll ds [] = ds.isEmpty
  | [] => by simp only [PyData.eqvAll, List.isEmpty_nil]
  | _ :: _ => by simp only [PyData.eqvAll, List.isEmpty_cons]
section
variable {X : Cx}
/-- repr(v) of data, told by what is nice of it -/
def rRepr (K : PySem.W.Frag) : List V → Hp → VK → Prop := fun xs H Q => ∃ v d, xs = [v] ∧ Dp K H v d ∧ nice d = true ∧ d.depth ≤ 60 ∧ wide d ≤ 1000000 ∧ Q (.str d.shown) H
theorem call_repr (gd : X.A.guards = some []) (hu : X.A.units + 64 < cLine) : CallR X (.builtin "repr") (rRepr X.K) := by
  intro pins s σ H xs us Q I r h
  obtain ⟨v, d, rfl, hd, hn, hdep, hw, q⟩ := h
  obtain ⟨a1, a2, _⟩ := nice_show d hn
  refine call_repr_data gd hu pins s σ H _ us Q I r ⟨v, d, rfl, hd, a1, a2, hdep, ?_, q⟩
  have h1 := shown_wide d hn
  exact Nat.le_trans h1 (Nat.le_trans hw (by decide))
end
end Vf

set_option Elab.async false
set_option linter.all false
set_option maxRecDepth 100000
/-! t[::-1] of a tuple. -/
namespace Vf
open PySem PySem.Spec PyProof.Rows L2 HT

theorem rev_places (n : Nat) : Builtin.Slice.slicePlaces ((n : Int) - 1) (-1) (-1) = n := by
  unfold Builtin.Slice.slicePlaces
  rw [if_neg (show ¬ ((-1 : Int) > 0) by decide)]
  by_cases h : ((n : Int) - 1 > -1)
  · rw [if_pos h]
    have e : ((n : Int) - 1 - -1 - 1) / -(-1) + 1 = n := by
      rw [show (-(-1) : Int) = 1 from rfl, Int.ediv_one]
      omega
    rw [e]
    rfl
  · rw [if_neg h]
    show 0 = n
    omega
theorem rev_pick {α : Type} (l : List α) : ∀ (k : Nat), k ≤ l.length → (List.range k).filterMap (fun (m : Nat) => l[((l.length : Int) - 1 + (m : Int) * -1).toNat]?) = (l.drop (l.length - k)).reverse
  | 0, _ => by simp
  | k + 1, h => by
    rw [List.range_succ, List.filterMap_append, rev_pick l k (by omega)]
    have e : ((l.length : Int) - 1 + (k : Int) * -1).toNat = l.length - (k + 1) := by omega
    have hk : l.length - (k + 1) < l.length := by omega
    have e2 : l.drop (l.length - (k + 1)) = l[l.length - (k + 1)] :: l.drop (l.length - k) := by
      rw [List.drop_eq_getElem_cons hk]
      congr 2
      omega
    rw [e2, List.reverse_cons]
    simp only [List.filterMap_cons, List.filterMap_nil, e, List.getElem?_eq_getElem hk]
section
variable {prog : Program} {w : World} {A : Around} {E : Value → Shared → Prop} {s : Shared}
theorem applied_rev {sl : Addr} {t : Tok} {n : Nat} {Q : Int × Int × Nat → Shared → Prop} (hs : s.heap.IsSliceOf sl .none .none (.int (-1) t)) (h : Q ((n : Int) - 1, -1, n) s) :
    wpAny (model prog w) A (Builtin.Slice.sliceApplied (.ref sl) (pure (n : Int))) Q E s := by
  obtain ⟨ob, get, _, dat⟩ := id hs
  unfold Builtin.Slice.sliceApplied Builtin.Slice.sliceFields
  refine wpAny_bind (wpAny_bind (wpAny_field get dat (x := .none) rfl (wpAny_bind (wpAny_field get dat (x := .none) rfl (wpAny_bind (wpAny_field get dat (x := .int (-1) t) rfl (wpAny_pure ?_)))))))
  refine wpAny_bind (slicePart_int ?_)
  show wpAny _ _ (if ((-1 : Int) == 0) = true then _ else _) _ _ s
  rw [if_neg (by decide)]
  refine wpAny_bind (slicePart_none (wpAny_bind (slicePart_none (wpAny_bind (wpAny_pure ?_)))))
  show wpAny _ _ (pure ((n : Int) - 1, (-1 : Int), Builtin.Slice.slicePlaces ((n : Int) - 1) (-1) (-1))) _ _ s
  rw [rev_places]
  exact wpAny_pure h
theorem getItem_tuple_rev {t sl : Addr} {items : Array Value} {tk : Tok} {Q : Value → Shared → Prop} (ht : IsTup s.heap t items) (hs : s.heap.IsSliceOf sl .none .none (.int (-1) tk))
    (h : Q (.ref s.heap.objs.size) { s with heap := s.heap.push { cls := .type "tuple", data := .seq items.toList.reverse.toArray } }) (hsz : items.size ≤ sizeLine) : wpAny (model prog w) A (getItem (.ref t) (.ref sl)) Q E s := by
  have fits : sizeOk (.seq items.toList.reverse.toArray) := by
    show items.toList.reverse.toArray.size ≤ sizeLine
    rw [List.size_toArray, List.length_reverse, Array.length_toList]
    exact hsz
  obtain ⟨ob, get, cls, dat⟩ := id hs
  have isS : s.TypeIs (.ref sl) "slice" := ⟨ob, get, cls⟩
  unfold getItem
  try with_reducible refine wpAny_holding ?_
  first | refine wpAny_bind (wpAny_pure ?_) | skip
  refine wpAny_bind (wpAny_sequenceKey ht.typeIs (by decide) ?_)
  refine wpAny_bind (wpAny_callSpecial?_slot (name := Str.ofString "__getitem__") ht.typeIs PyProof.Rows.slot_tuple_getitem
    (wpAny_call_entry PyProof.Rows.slot_tuple_getitem ht.typeIs entry_tuple_getitem ?_ (args_tuple_getitem _ _)))
  show wpAny _ _ (Builtin.Tuple.tupleItemsOf (.ref t) >>= _) _ _ s
  refine wpAny_bind (tupleItemsOf_ ht ?_)
  refine wpAny_bind (wpAny_typeOf isS ?_)
  rw [if_pos (by decide)]
  refine wpAny_bind (applied_rev hs ?_)
  have other : ¬ ((((items.size : Int) - 1 == 0) && ((-1 : Int) == 1) && (items.size == items.size)) = true) := by
    intro q
    rw [Bool.and_eq_true, Bool.and_eq_true] at q
    exact absurd (eq_of_beq q.1.2) (by decide)
  show wpAny _ _ (if (((items.size : Int) - 1 == 0) && ((-1 : Int) == 1) && (items.size == items.size)) = true then _ else _) _ _ s
  have pick : ((List.range items.size).filterMap fun (k : Nat) => items[((items.size : Int) - 1 + (k : Int) * -1).toNat]?) = items.toList.reverse := by
    have := rev_pick items.toList items.size (by simp)
    simp only [Array.length_toList, Nat.sub_self, List.drop_zero, Array.getElem?_toList] at this
    exact this
  rw [if_neg other, pick]
  first
    | exact wpAny_bind (m := Builtin.Tuple.tupleExact _) (wpAny_newObj_type (wpAny_pure ⟨_, rfl, wpAny_pure h⟩) fits)
    | exact wpAny_bind (m := Builtin.Tuple.tupleExact _) (wpAny_newObj_type (wpAny_bind (wpAny_pure (wpAny_pure ⟨_, rfl, wpAny_pure h⟩))) fits)
    | exact wpAny_bind (wpAny_bind (m := Builtin.Tuple.tupleExact _) (wpAny_newObj_type (wpAny_pure (wpAny_pure ⟨_, rfl, wpAny_pure h⟩)) fits))
    | exact wpAny_bind (wpAny_bind (m := Builtin.Tuple.tupleExact _) (wpAny_newObj_type (wpAny_pure ⟨_, rfl, wpAny_pure h⟩) fits))
end
section
variable {X : Cx}
def tRevT (K : PySem.W.Frag) (te : TE) : TE := fun σ H Q => te σ H fun x H1 => ∃ a xs, x = .ref a ∧ SqT K H1 a xs ∧ ∀ p, H1 p = none → Q (.ref p) (upd H1 p (.tup xs.reverse))
theorem pe_revT {e : Expr} {te : TE} {k : Nat} {p1 p2 p3 pos : Pos} (he : PE X e te) : PE X (.Subscript e (.Slice none none (some (.UnaryOp .USub (.Constant (.int 1) k p1) p2)) p3) pos) (tRevT X.K te) := by
  constructor
  intro pins s σ H Q I h
  refine Subscript_ (thn (he.run pins s σ H _ I h) ?_)
  rintro v s1 ⟨x, H1, I1, r1, a, xs, rfl, hx, q⟩
  cases r1
  have minus : PO X (some (.UnaryOp .USub (.Constant (.int 1) k p1) p2)) (tPart (tUn (rU fun i => .int (-i)) (tC (.int 1)))) := po_some (pe_un un_neg pe_int)
  refine wpAny_Slice (thn (po_none.run pins s1 σ H1 (fun o H2 => o = none ∧ H2 = H1) I1 ⟨rfl, rfl⟩) ?_)
  rintro vl s2 ⟨l, H2, I2, pl, rfl, rfl⟩
  refine thn (po_none.run pins s2 σ H2 (fun o H3 => o = none ∧ H3 = H2) I2 ⟨rfl, rfl⟩) ?_
  rintro vu s3 ⟨u, H3, I3, pu, rfl, rfl⟩
  refine thn (minus.run pins s3 σ H3 (fun o H4 => o = some (-1) ∧ H4 = H3) I3 ⟨1, rfl, -1, rfl, rfl, rfl⟩) ?_
  rintro vs s4 ⟨o, H4, I4, ps, rfl, rfl⟩
  have I5 : Inv X pins σ H4 { s4 with heap := s4.heap.push { cls := .type "slice", data := .fields #[vl, vu, vs] } } := I4.kept (t' := s4.toks) fun b ob q => Heap.get?_push_of_some _ q
  obtain ⟨its, r, ht, hz⟩ := I5.tuple hx
  have same := r.length
  cases pl
  cases pu
  cases ps with
  | int _ tk =>
    show wpAny (model X.prog X.w) X.A (subscriptTail e (.Slice none none (some (.UnaryOp .USub (.Constant (.int 1) k p1) p2)) p3) (.ref a) (.ref s4.heap.objs.size)) (EP X pins σ Q) X.xe { s4 with heap := s4.heap.push { cls := .type "slice", data := .fields #[.none, .none, .int (-1) tk] } }
    refine tail_any (ops := [.ref a, .ref s4.heap.objs.size]) ht.typeIs PyProof.Rows.slot_tuple_getitem.lookup ?_ (by with_unfolding_all rfl)
    refine getItem_tuple_rev ht (Heap.IsSliceOf.new _ .none .none (.int (-1) tk)) ?_ (by rw [List.size_toArray]; omega)
    refine ⟨.ref _, _, I5.laid (t' := s4.toks) (o := .tup xs.reverse) (fun b ob q => Heap.get?_push_of_some _ q) (Nat.le_refl _) ?_, rfl, q _ (I5.hok.fresh (Nat.le_refl _))⟩
    exact ⟨by rw [List.length_reverse]; exact hz, _, r.reverse, ⟨_, Heap.get?_push_size _ rfl, rfl, _, rfl⟩⟩
end
end Vf

set_option Elab.async false
set_option linter.all false
set_option maxRecDepth 100000
/-! A list set aside (the pool that a law draws from); tuples cut and joined, the new one or the same. -/
namespace Vf
open PySem PySem.Spec PyProof.Rows L2

/-- the heap without one address -/
def wo (p : Addr) (H : Hp) : Hp := fun b => if b = p then none else H b
theorem wo_ne {p b : Addr} {H : Hp} (h : b ≠ p) : wo p H b = H b := by
  unfold wo
  rw [if_neg h]
theorem wo_at {p : Addr} {H : Hp} : wo p H p = none := by
  unfold wo
  rw [if_pos rfl]
theorem wo_same {p : Addr} {H : Hp} : Same (wo p H) H := fun b o e => by
  by_cases h : b = p
  · subst h
    rw [wo_at] at e
    cases e
  · rw [wo_ne h] at e
    exact e
/-- all but one address is as it was -/
def But (p : Addr) (H H' : Hp) : Prop := ∀ b o, b ≠ p → H b = some o → H' b = some o
theorem But.refl {p : Addr} {H : Hp} : But p H H := fun _ _ _ h => h
theorem But.trans {p : Addr} {H H1 H2 : Hp} (a : But p H H1) (b : But p H1 H2) : But p H H2 := fun c o n h => b c o n (a c o n h)
theorem But.of {p : Addr} {H H' : Hp} (s : Same H H') : But p H H' := fun b o _ h => s b o h
theorem But.at {p : Addr} {H : Hp} {o : HO} : But p H (upd H p o) := fun b u n h => by
  rw [upd_ne n]
  exact h
theorem But.wo {p : Addr} {H H' : Hp} (h : But p H H') : Same (wo p H) (wo p H') := fun b o e => by
  by_cases n : b = p
  · subst n
    rw [wo_at] at e
    cases e
  · rw [wo_ne n] at e ⊢
    exact h b o n e
/-- what stood ahead of a new object stands beside it -/
theorem same_wo {c : Addr} {H : Hp} {o : HO} (h : H c = none) : Same H (wo c (upd H c o)) := fun b u e => by
  have n := ne_of_none e h
  rw [wo_ne n, upd_ne n]
  exact e
section
variable {K : PySem.W.Frag} {H H' : Hp} {p : Addr}
theorem sqT_wo {t : Addr} {xs : List V} (h : SqT K H t xs) {l : List V} (hp : H p = some (.lst l)) : SqT K (wo p H) t xs := by
  rcases h with (h | ⟨o, h⟩) | h
  · exact .inl (.inl (by rw [wo_ne (ne_of h hp (by simp))]; exact h))
  · exact .inl (.inr ⟨o, by rw [wo_ne (ne_of h hp (by simp))]; exact h⟩)
  · exact .inr h
theorem sqL_wo {t : Addr} {xs : List V} (n : t ≠ p) (h : SqL K H t xs) : SqL K (wo p H) t xs := by
  rcases h with (h | ⟨o, h⟩) | h
  · exact .inl (.inl (by rw [wo_ne n]; exact h))
  · exact .inl (.inr ⟨o, by rw [wo_ne n]; exact h⟩)
  · exact .inr h
theorem sqL_wo_at {H H' : Hp} {p l : Addr} {xs : List V} (b : But p H H') (n : l ≠ p) (h : SqL K H l xs) : SqL K H' l xs := wo_same.seq (b.wo.seq (sqL_wo n h))
end
section
variable {X : Cx}
/-- t + u, told as some tuple -/
def rCatN (K : PySem.W.Frag) : R2 := fun x y H Q => ∃ a b xs ys, x = .ref a ∧ y = .ref b ∧ SqT K H a xs ∧ SqT K H b ys ∧ xs.length + ys.length ≤ sizeLine ∧ ∀ t H', Same H H' → SqT K H' t (xs ++ ys) → Q (.ref t) H'
theorem op_catN : OpR X (binaryOp .Add) (rCatN X.K) := by
  intro pins s σ H x y v u Q I rx ry h
  obtain ⟨a, b, xs, ys, ex, ey, ha, hb, hz, q⟩ := h
  refine op_catA pins s σ H x y v u Q I rx ry ⟨a, b, xs, ys, ex, ey, ha, hb, hz, fun e => ?_, fun _ e => ?_, fun _ _ p hp => ?_⟩
  · subst e
    exact q b H (Same.refl H) hb
  · subst e
    exact q a H (Same.refl H) (by rw [List.append_nil]; exact ha)
  · exact q p _ (same_new hp) sqT_new
/-- t[i:j], told as some tuple -/
def rSlN (K : PySem.W.Frag) : V → Option Int → Option Int → Hp → VK → Prop := fun x lo hi H Q => ∃ a xs, x = .ref a ∧ SqT K H a xs ∧ ∀ t H', Same H H' → SqT K H' t (cutV xs lo hi) → Q (.ref t) H'
theorem cut_whole {xs : List V} {lo hi : Option Int} (h : HT.sIx xs.length 0 lo = 0 ∧ HT.sIx xs.length xs.length hi = xs.length) : cutV xs lo hi = xs := by
  unfold cutV
  rw [h.1, h.2]
  simp
theorem sl_tupN : SlR X (rSlN X.K) := by
  intro pins s σ H x v vl vu lo hi sl Q I rx hs pl pu h
  obtain ⟨a, xs, ex, hx, q⟩ := h
  refine sl_tupA pins s σ H x v vl vu lo hi sl Q I rx hs pl pu ⟨a, xs, ex, hx, fun e => ?_, fun _ p hp => ?_⟩
  · exact q a H (Same.refl H) (by rw [cut_whole e]; exact hx)
  · exact q p _ (same_new hp) sqT_new
end
/-- t[:i] -/
theorem cut_to (xs : List V) (i : Nat) : cutV xs none (some (i : Int)) = xs.take i := by
  unfold cutV
  rw [HT.sIx_none, HT.sIx_nat]
  simp only [List.drop_zero, Nat.sub_zero]
  by_cases h : i ≤ xs.length
  · rw [Nat.min_eq_left h]
  · rw [Nat.min_eq_right (by omega), List.take_of_length_le (Nat.le_refl _), List.take_of_length_le (by omega)]
/-- t[i:] -/
theorem cut_from (xs : List V) (i : Nat) : cutV xs (some (i : Int)) none = xs.drop i := by
  unfold cutV
  rw [HT.sIx_none, HT.sIx_nat]
  by_cases h : i ≤ xs.length
  · rw [Nat.min_eq_left h]
    exact List.take_of_length_le (by rw [List.length_drop]; exact Nat.le_refl _)
  · rw [Nat.min_eq_right (by omega), List.drop_of_length_le (Nat.le_refl _), List.drop_of_length_le (by omega)]
    simp
end Vf

set_option Elab.async false
set_option linter.all false
set_option maxRecDepth 100000
set_option exponentiation.threshold 3000
/-! Where the text stands in the statement. -/
namespace Vf
open PySem L2
def topS (i : Nat) : Stmt := PySem.Challenge.pw_boxregions_k05_whole_operators.main.body.getD i (.Pass ⟨0, 0, 0, 0⟩)
abbrev sWhole : Stmt := topS 1
abbrev sAre : Stmt := topS 2
abbrev sC_BoxError : Stmt := topS 4
abbrev sC_InvalidBox : Stmt := topS 5
abbrev sC_InvalidSquare : Stmt := topS 6
abbrev sC_InvalidRegion : Stmt := topS 7
abbrev sC_Unbounded : Stmt := topS 8
abbrev sComb : Stmt := topS 14
abbrev sSteps : Stmt := topS 15
abbrev sForm : Stmt := topS 16
abbrev sCmb : Stmt := topS 17
abbrev sBoxes : Stmt := topS 18
abbrev sFrameOf : Stmt := topS 19
abbrev sP_reflected : Stmt := topS 20
abbrev sP_grown : Stmt := topS 21
abbrev sP_shrunk : Stmt := topS 22
abbrev sAt : Stmt := topS 23
abbrev sHas : Stmt := topS 24
abbrev sSq : Stmt := topS 26
abbrev sBox : Stmt := topS 27
abbrev sRegion : Stmt := topS 28
abbrev sCheck : Stmt := topS 29
abbrev sCheckSq : Stmt := topS 30
abbrev sPool : Stmt := topS 32
abbrev sTake : Stmt := topS 33
abbrev sLines : Stmt := topS 34
abbrev sDrawn : Stmt := topS 35
abbrev sHasL : Stmt := topS 36
abbrev sProbes : Stmt := topS 37
abbrev sL_drawn : Stmt := topS 38
abbrev sL_in : Stmt := topS 39
abbrev sIsSpans : Stmt := topS 40
abbrev sIsForm : Stmt := topS 41
abbrev sRight : Stmt := topS 42
abbrev sL_alike : Stmt := topS 43
abbrev sLaw : Stmt := topS 44
abbrev sC_BoxError_init : Stmt := inClass sC_BoxError 0
abbrev sC_InvalidBox_init : Stmt := inClass sC_InvalidBox 0
abbrev sC_InvalidSquare_init : Stmt := inClass sC_InvalidSquare 0
abbrev sC_InvalidRegion_init : Stmt := inClass sC_InvalidRegion 0
abbrev sC_Unbounded_init : Stmt := inClass sC_Unbounded 0
abbrev sInit : Stmt := inClass sRegion 0
abbrev sOf : Stmt := inClass sRegion 1
abbrev sEmpty : Stmt := inClass sRegion 2
abbrev sEvery : Stmt := inClass sRegion 3
abbrev sIsB : Stmt := inClass sRegion 4
abbrev sSlabs : Stmt := inClass sRegion 5
abbrev sFrame : Stmt := inClass sRegion 6
abbrev sCombined : Stmt := inClass sRegion 7
abbrev sOr : Stmt := inClass sRegion 8
abbrev sAnd : Stmt := inClass sRegion 9
abbrev sSub : Stmt := inClass sRegion 10
abbrev sXor : Stmt := inClass sRegion 11
abbrev sAdd : Stmt := inClass sRegion 12
abbrev sFdiv : Stmt := inClass sRegion 13
abbrev sRor : Stmt := inClass sRegion 14
abbrev sRand : Stmt := inClass sRegion 15
abbrev sRsub : Stmt := inClass sRegion 16
abbrev sRxor : Stmt := inClass sRegion 17
abbrev sRadd : Stmt := inClass sRegion 18
abbrev sRfdiv : Stmt := inClass sRegion 19
abbrev sInv : Stmt := inClass sRegion 20
abbrev sContains : Stmt := inClass sRegion 21
abbrev sBool : Stmt := inClass sRegion 22
abbrev sWithin : Stmt := inClass sRegion 23
abbrev sBoxesG : Stmt := inClass sRegion 24
abbrev sEq : Stmt := inClass sRegion 25
abbrev sRepr : Stmt := inClass sRegion 26
end Vf

set_option Elab.async false
set_option linter.all false
set_option maxRecDepth 100000
set_option exponentiation.threshold 3000
/-! Squares and boxes judged. -/
namespace Vf
open PySem PySem.Spec PyProof.Rows L2
open C8 (pss_cut tCut)
theorem scWhole : FnScope ["thing"] ["thing"] (defScope sWhole) := ⟨rfl, rfl, rfl, by decide +kernel, rfl, by decide +kernel, by decide +kernel⟩
theorem scAre : FnScope ["thing", "many", "item"] ["thing", "many"] (defScope sAre) := ⟨rfl, rfl, rfl, by decide +kernel, rfl, by decide +kernel, by decide +kernel⟩
theorem scSq : FnScope ["thing"] ["thing"] (defScope sSq) := ⟨rfl, rfl, rfl, by decide +kernel, rfl, by decide +kernel, by decide +kernel⟩
theorem scBox : FnScope ["thing"] ["thing"] (defScope sBox) := ⟨rfl, rfl, rfl, by decide +kernel, rfl, by decide +kernel, by decide +kernel⟩
/-! ### what a thing is -/
/-- a value that the law hands on: data, or the empty dict -/
def Th (K : PySem.W.Frag) (H : Hp) (v : V) (d : PyData) : Prop := Dp K H v d ∨ ∃ a, v = .ref a ∧ H a = some (.dK []) ∧ d = .dict []
theorem th_ty {K : PySem.W.Frag} {H : Hp} {v : V} {d : PyData} (h : Th K H v d) : TyX K H v (.type (tyName d)) := by
  rcases h with h | ⟨a, rfl, h, rfl⟩
  · exact tyX_dp h
  · exact .base (.dK h)
theorem th_same {K : PySem.W.Frag} {H H' : Hp} {v : V} {d : PyData} (s : Same H H') (h : Th K H v d) : Th K H' v d := by
  rcases h with h | ⟨a, rfl, h, rfl⟩
  · exact .inl (dp_same s h)
  · exact .inr ⟨a, rfl, s _ _ h, rfl⟩
def isWhole : PyData → Bool
  | .int _ => true
  | _ => false
def isIB : PyData → Bool
  | .int _ => true
  | .bool _ => true
  | _ => false
def isB : PyData → Bool
  | .bool _ => true
  | _ => false
def isTup : PyData → Bool
  | .tuple _ => true
  | _ => false
theorem kit_int (d : PyData) : kitB (tyName d) "int" = some (isIB d) := by cases d <;> (simp only [tyName, isIB, isB, isTup]; decide +kernel)
theorem kit_bool (d : PyData) : kitB (tyName d) "bool" = some (isB d) := by cases d <;> (simp only [tyName, isIB, isB, isTup]; decide +kernel)
theorem kit_tup (d : PyData) : kitB (tyName d) "tuple" = some (isTup d) := by cases d <;> (simp only [tyName, isIB, isB, isTup]; decide +kernel)
def areWhole (n : Int) : PyData → Bool
  | .tuple ds => decide ((ds.length : Int) = n) && ds.all isWhole
  | _ => false

section
variable {P : Program} {w : World} {K : PySem.W.Frag} {mg : Str → Option Value} {base : Heap}
/-! ### is_whole -/
def spWhole (K : PySem.W.Frag) : Sp := fun vs H Q _ => ∃ v d, vs = [v] ∧ Th K H v d ∧ Q (.bl (isWhole d)) H
theorem ok_whole {f : Addr} {fd : FuncData} {k : Nat} (F : Fun K "is_whole" "is_whole" sWhole f fd) (mi : mg "isinstance" = none) (mI : mg "int" = none) (mB : mg "bool" = none) : FnOk P w K mg base CX0 (k + 1) f fd ["thing"] (spWhole K) := by
  have nd := scWhole.nd
  refine F.ok scWhole (fun vs H Q E h => ?_) (fun cdv A outer s H vs Q E hr h => ?_)
  · obtain ⟨v, d, rfl, _⟩ := h
    rfl
  · obtain ⟨v, d, rfl, hd, q⟩ := h
    have ty := th_ty hd
    refine ⟨_, (pss_one (ps_ret (pe_and (pe_callB call_isi (by rfl) mi (by decide +kernel) (pa_cons (pv 0) (pa_cons (pe_bltn (v := .ty "int") (by rfl) mI (by decide +kernel) rfl) pa_nil))) (pe_one (pe_not (pe_callB call_isi (by rfl) mi (by decide +kernel) (pa_cons (pv 0) (pa_cons (pe_bltn (v := .ty "bool") (by rfl) mB (by decide +kernel) rfl) pa_nil)))))))), ?_⟩
    refine ⟨v, rfl, v, .ty "int", _, _, _, rfl, .ty _, ty, kit_ty (kit_int d), _, rfl, ?_⟩
    cases d with
    | int i => exact iteT ⟨v, rfl, v, .ty "bool", _, _, _, rfl, .ty _, ty, kit_ty (kit_bool (.int i)), _, rfl, q⟩
    | bool b => exact iteT ⟨v, rfl, v, .ty "bool", _, _, _, rfl, .ty _, ty, kit_ty (kit_bool (.bool b)), _, rfl, q⟩
    | none => exact iteF q
    | str x => exact iteF q
    | list x => exact iteF q
    | tuple x => exact iteF q
    | dict x => exact iteF q
/-! ### are_whole -/
theorem small_of {n : Nat} (h : n ≤ 1000) : n ≤ sizeLine := Nat.le_of_lt (small1000 h)
def spAre (K : PySem.W.Frag) : Sp := fun vs H Q _ => ∃ v d n, vs = [v, .int n] ∧ Th K H v d ∧ (∀ ds, d = .tuple ds → ds.length ≤ 1000) ∧ ∀ H', Same H H' → Q (.bl (areWhole n d)) H'
theorem ok_are {f fW : Addr} {fd fdW : FuncData} {k : Nat} (F : Fun K "are_whole" "are_whole" sAre f fd) (FW : Fun K "is_whole" "is_whole" sWhole fW fdW) (bW : Binds K fdW ["thing"] []) (gW : mg "is_whole" = some (.ref fW))
    (mi : mg "isinstance" = none) (mI : mg "int" = none) (mB : mg "bool" = none) (mT : mg "tuple" = none) (ml : mg "len" = none) (ma : mg "all" = none) : FnOk P w K mg base CX0 (k + 2) f fd ["thing", "many"] (spAre K) := by
  have nd := scAre.nd
  refine F.ok scAre (fun vs H Q E h => ?_) (fun cdv A outer s H vs Q E hr h => ?_)
  · obtain ⟨v, d, n, rfl, _⟩ := h
    rfl
  · obtain ⟨v, d, n, rfl, hd, hsz, q⟩ := h
    have ty := th_ty hd
    have GW : FnOk P w K mg base CX0 (k + 1) fW fdW ["thing"] (spWhole K) := ok_whole FW mi mI mB
    refine ⟨_, (pss_one (ps_ret (pe_and (pe_callB call_isi (by rfl) mi (by decide +kernel) (pa_cons (pv 0) (pa_cons (pe_bltn (v := .ty "tuple") (by rfl) mT (by decide +kernel) rfl) pa_nil))) (pe_and (pe_cmpR op_eq (pe_callB call_len_seq (by rfl) ml PySem.boot_len (pa_cons (pv 0) pa_nil)) (pv 1) (nomark _)) (pe_one (pe_callB (cr_all rfl) (by rfl) ma (by decide +kernel) (pa_cons (pe_lc (own := [("item", 2)]) (g := gName 2) (tt := tYes) rfl nd (pi_tup (pv 0)) (blkOk_by (N := ["thing", "many", "item"]) (sc := defScope sAre) (by decide +kernel)) (fun _ _ _ _ _ => (pg_name (i := 2) nd rfl (Or.inl rfl))) (fun _ _ _ _ _ => pts_nil) (fun _ _ _ _ _ => (pe_call GW hr (by rfl) gW FW.kp bW .nil pass0 (pa_cons (pv 2) pa_nil)))) pa_nil))))))), ?_⟩
    refine ⟨v, rfl, v, .ty "tuple", _, _, _, rfl, .ty _, ty, kit_ty (kit_tup d), _, rfl, ?_⟩
    have no : isTup d = false → areWhole n d = false := fun e => by
      cases d <;> first | rfl | (cases e)
    by_cases ht : isTup d = true
    · cases d with
      | tuple ds =>
        have hds := hsz ds rfl
        rcases hd with hd | ⟨_, _, _, z⟩
        · cases hd with
          | @tup a xs _ hs ha =>
            have hlen := dpAll_len ha
            refine iteT ⟨.ref a, rfl, a, xs, rfl, .inr hs, .int n, rfl, rfl, _, rfl, ite2 (fun e => ?_) (fun e => ?_)⟩
            · have en : ((xs.length : Nat) : Int) = n := V.int.inj (of_decide_eq_true e)
              refine ⟨.ref a, rfl, a, rfl, ⟨_, hs⟩, fun D hD => ?_⟩
              refine lc_tup (K := K) (a := a) (xs := xs) (fun i H' => Same H H' ∧ H' D = some (.lst (((ds.take i).map isWhole).map V.bl))) ⟨same_new hD, upd_same⟩ (fun i H' _ h => sqT_same h.1 hs) (fun i x H' hx hp => ?_) (fun H' hp => ?_)
              · obtain ⟨hS, hL⟩ := hp
                obtain ⟨dx, hdx, hx2⟩ := dpAll_get ha hx
                have hiL : i < ds.length := (List.getElem?_eq_some_iff.mp hdx).1
                refine ⟨rfl, x, rfl, x, dx, rfl, .inl (dp_same hS hx2), _, hL, ?_, ?_, ?_⟩
                · rw [List.length_map, List.length_map, List.length_take]
                  exact small1000 (by omega)
                · intro b o e
                  have hb : b ≠ D := ne_of_none e hD
                  rw [upd_ne hb]
                  exact hS b o e
                · rw [upd_same, List.take_add_one, hdx, List.map_append, List.map_append]
                  rfl
              · obtain ⟨hS, hL⟩ := hp
                rw [hlen, List.take_length] at hL
                refine ⟨D, _, rfl, .inl (.inl hL), ?_⟩
                have := q H' hS
                have e2 : areWhole n (.tuple ds) = (ds.map isWhole).all id := by
                  show (decide ((ds.length : Int) = n) && ds.all isWhole) = _
                  rw [← hlen, decide_eq_true en, List.all_map, Bool.true_and]
                  rfl
                rw [e2] at this
                exact this
            · have e2 : areWhole n (.tuple ds) = false := by
                show (decide ((ds.length : Int) = n) && ds.all isWhole) = _
                rw [← hlen, decide_eq_false (fun z => e (decide_eq_true (congrArg V.int z))), Bool.false_and]
              have := q H (Same.refl H)
              rw [e2] at this
              exact this
        · cases z
      | _ => cases ht
    · have hf : isTup d = false := by simpa using ht
      rw [hf]
      have := q H (Same.refl H)
      rw [no hf] at this
      exact iteF this
/-! ### is_square, is_box -/
def isBox : PyData → Bool
  | .tuple [.int a, .int b, .int c, .int e] => decide (a < c) && decide (b < e)
  | _ => false
theorem whole_int {d : PyData} (h : isWhole d = true) : ∃ i, d = .int i := by
  cases d with
  | int i => exact ⟨i, rfl⟩
  | _ => cases h
theorem are4 {d : PyData} (h : areWhole 4 d = true) : ∃ a b c e, d = .tuple [.int a, .int b, .int c, .int e] := by
  cases d with
  | tuple ds =>
    have h' : (decide ((ds.length : Int) = 4) && ds.all isWhole) = true := h
    rw [Bool.and_eq_true] at h'
    have hl := of_decide_eq_true h'.1
    match ds, hl, h'.2 with
    | [d1, d2, d3, d4], _, ha =>
      simp only [List.all_cons, List.all_nil, Bool.and_eq_true, Bool.and_true] at ha
      obtain ⟨a, rfl⟩ := whole_int ha.1
      obtain ⟨b, rfl⟩ := whole_int ha.2.1
      obtain ⟨c, rfl⟩ := whole_int ha.2.2.1
      obtain ⟨e, rfl⟩ := whole_int ha.2.2.2
      exact ⟨a, b, c, e, rfl⟩
    | [], hl, _ => simp at hl
    | [_], hl, _ => simp at hl
    | [_, _], hl, _ => simp at hl
    | [_, _, _], hl, _ => simp at hl
    | _ :: _ :: _ :: _ :: _ :: _, hl, _ =>
      simp only [List.length_cons] at hl
      omega
  | _ => cases h
theorem not_box {d : PyData} (h : areWhole 4 d = false) : isBox d = false := by
  unfold isBox
  split
  · cases h
  · rfl
/-- four ints at a tuple -/
theorem dp4 {H : Hp} {v : V} {a b c e : Int} (h : Dp K H v (.tuple [.int a, .int b, .int c, .int e])) : ∃ p, v = .ref p ∧ SqT K H p [.int a, .int b, .int c, .int e] := by
  cases h with
  | tup hs ha =>
    cases ha with
    | cons h1 ha =>
      cases h1
      cases ha with
      | cons h1 ha =>
        cases h1
        cases ha with
        | cons h1 ha =>
          cases h1
          cases ha with
          | cons h1 ha =>
            cases h1
            cases ha
            exact ⟨_, rfl, hs⟩
def spSq (K : PySem.W.Frag) : Sp := fun vs H Q _ => ∃ v d, vs = [v] ∧ Th K H v d ∧ (∀ ds, d = .tuple ds → ds.length ≤ 1000) ∧ ∀ H', Same H H' → Q (.bl (areWhole 2 d)) H'
theorem ok_sq {f fA : Addr} {fd fdA : FuncData} {k : Nat} (F : Fun K "is_square" "is_square" sSq f fd) (GA : FnOk P w K mg base CX0 k fA fdA ["thing", "many"] (spAre K)) (kA : PySem.W.keepIn K (.ref fA) = true) (bA : Binds K fdA ["thing", "many"] []) (gA : mg "are_whole" = some (.ref fA)) :
    FnOk P w K mg base CX0 (k + 1) f fd ["thing"] (spSq K) := by
  have nd := scSq.nd
  refine F.ok scSq (fun vs H Q E h => ?_) (fun cdv A outer s H vs Q E hr h => ?_)
  · obtain ⟨v, d, rfl, _⟩ := h
    rfl
  · obtain ⟨v, d, rfl, hd, hsz, q⟩ := h
    refine ⟨_, (pss_one (ps_ret (pe_call GA hr (by rfl) gA kA bA .nil pass0 (pa_cons (pv 0) (pa_cons pe_int pa_nil))))), ?_⟩
    exact ⟨v, rfl, v, d, 2, rfl, hd, hsz, q⟩
def spBox (K : PySem.W.Frag) : Sp := fun vs H Q _ => ∃ v d, vs = [v] ∧ Th K H v d ∧ (∀ ds, d = .tuple ds → ds.length ≤ 1000) ∧ ∀ H', Same H H' → Q (.bl (isBox d)) H'
theorem ok_box {f fA : Addr} {fd fdA : FuncData} {k : Nat} (F : Fun K "is_box" "is_box" sBox f fd) (GA : FnOk P w K mg base CX0 k fA fdA ["thing", "many"] (spAre K)) (kA : PySem.W.keepIn K (.ref fA) = true) (bA : Binds K fdA ["thing", "many"] []) (gA : mg "are_whole" = some (.ref fA)) :
    FnOk P w K mg base CX0 (k + 1) f fd ["thing"] (spBox K) := by
  have nd := scBox.nd
  refine F.ok scBox (fun vs H Q E h => ?_) (fun cdv A outer s H vs Q E hr h => ?_)
  · obtain ⟨v, d, rfl, _⟩ := h
    rfl
  · obtain ⟨v, d, rfl, hd, hsz, q⟩ := h
    refine ⟨_, (pss_one (ps_ret (pe_and (pe_call GA hr (by rfl) gA kA bA .nil pass0 (pa_cons (pv 0) (pa_cons pe_int pa_nil))) (pe_and (pe_cmpR op_lt (pe_ix ix_tup (pv 0) pe_int (fun _ _ => rfl)) (pe_ix ix_tup (pv 0) pe_int (fun _ _ => rfl)) (nomark _)) (pe_one (pe_cmpR op_lt (pe_ix ix_tup (pv 0) pe_int (fun _ _ => rfl)) (pe_ix ix_tup (pv 0) pe_int (fun _ _ => rfl)) (nomark _))))))), ?_⟩
    refine ⟨v, rfl, v, d, 4, rfl, hd, hsz, fun H' hS => ⟨_, rfl, ?_⟩⟩
    by_cases h4 : areWhole 4 d = true
    · rw [h4]
      obtain ⟨a, b, c, e, rfl⟩ := are4 h4
      rcases hd with hd | ⟨_, _, _, z⟩
      · obtain ⟨p, rfl, hp⟩ := dp4 hd
        have hq := sqT_same hS hp
        refine iteT ⟨.ref p, rfl, p, _, 0, .int a, rfl, rfl, hq, atI_nat (j := 0) rfl, .ref p, rfl, p, _, 2, .int c, rfl, rfl, hq, atI_nat (j := 2) rfl, a, c, rfl, rfl, _, rfl, ite2 (fun e1 => ?_) (fun e1 => ?_)⟩
        · refine ⟨.ref p, rfl, p, _, 1, .int b, rfl, rfl, hq, atI_nat (j := 1) rfl, .ref p, rfl, p, _, 3, .int e, rfl, rfl, hq, atI_nat (j := 3) rfl, b, e, rfl, rfl, ?_⟩
          have := q H' hS
          have e2 : isBox (.tuple [.int a, .int b, .int c, .int e]) = decide (b < e) := by
            show (decide (a < c) && decide (b < e)) = _
            rw [show decide (a < c) = true from e1, Bool.true_and]
          rw [e2] at this
          exact this
        · have := q H' hS
          have e2 : isBox (.tuple [.int a, .int b, .int c, .int e]) = false := by
            show (decide (a < c) && decide (b < e)) = _
            have : decide (a < c) = false := by simpa using e1
            rw [this, Bool.false_and]
          rw [e2] at this
          exact this
      · cases z
    · have hf : areWhole 4 d = false := by simpa using h4
      rw [hf]
      have := q H' hS
      rw [not_box hf] at this
      exact iteF this
end
end Vf

set_option Elab.async false
set_option linter.all false
set_option maxRecDepth 100000
/-! Walks told once: of a comprehension's or a loop's turns, over anything. -/
namespace Vf
open PySem PySem.Spec PyProof.Rows L2

/-- turns of a comprehension (or of an inner one): n of them, Pv what holds -/
theorem wk {J : It} {B : V → Hp → (Hp → Prop) → Prop} {Qd : Hp → Prop} {H : Hp} (n : Nat) (Pv : Nat → Hp → Prop) (h0 : Pv 0 H)
    (go : ∀ i H, i < n → Pv i H → J.go i H ∧ ∀ x H', J.yld i H x H' → B x H' (Pv (i + 1))) (hd : ∀ H, Pv n H → J.stop n H ∧ Qd H) :
    ∃ W : Nat → Nat → Hp → Prop, (∃ m, W 0 m H) ∧ ∀ i m H, W i m H → (J.stop i H ∧ Qd H) ∨ (J.go i H ∧ ∃ Nx : Hp → Prop, (∀ H', Nx H' → ∃ m', m' < m ∧ W (i + 1) m' H') ∧ ∀ x H', J.yld i H x H' → B x H' Nx) := by
  refine ⟨fun i m H => m = n - i ∧ i ≤ n ∧ Pv i H, ⟨n, rfl, Nat.zero_le _, h0⟩, ?_⟩
  rintro i m H ⟨rfl, hi, p⟩
  by_cases h : i < n
  · obtain ⟨g1, g2⟩ := go i H h p
    exact .inr ⟨g1, Pv (i + 1), fun H' q => ⟨n - (i + 1), by omega, rfl, h, q⟩, g2⟩
  · obtain rfl : i = n := by omega
    exact .inl (hd H p)
/-- turns of a for loop -/
theorem wkS {J : It} {B : V → L2.St → Hp → (L2.St → Hp → Prop) → Prop} {Qd : L2.St → Hp → Prop} {σ : L2.St} {H : Hp} (n : Nat) (Pv : Nat → L2.St → Hp → Prop) (h0 : Pv 0 σ H)
    (go : ∀ i σ H, i < n → Pv i σ H → J.go i H ∧ ∀ x H', J.yld i H x H' → B x σ H' (Pv (i + 1))) (hd : ∀ σ H, Pv n σ H → J.stop n H ∧ Qd σ H) :
    ∃ W : Nat → Nat → L2.St → Hp → Prop, (∃ m, W 0 m σ H) ∧ ∀ i m σ H, W i m σ H → (J.stop i H ∧ Qd σ H) ∨ (J.go i H ∧ ∃ N : L2.St → Hp → Prop, (∀ σ' H', N σ' H' → ∃ m', m' < m ∧ W (i + 1) m' σ' H') ∧ ∀ x H', J.yld i H x H' → B x σ H' N) := by
  refine ⟨fun i m σ H => m = n - i ∧ i ≤ n ∧ Pv i σ H, ⟨n, rfl, Nat.zero_le _, h0⟩, ?_⟩
  rintro i m σ H ⟨rfl, hi, p⟩
  by_cases h : i < n
  · obtain ⟨g1, g2⟩ := go i σ H h p
    exact .inr ⟨g1, Pv (i + 1), fun σ' H' q => ⟨n - (i + 1), by omega, rfl, h, q⟩, g2⟩
  · obtain rfl : i = n := by omega
    exact .inl (hd σ H p)
section
variable {K : PySem.W.Frag} {H : Hp} {a : Addr} {xs : List V} {i : Nat}
/-- a tuple's turn -/
theorem tt_go {P : V → Hp → Prop} (h : SqT K H a xs) (hi : i < xs.length) (p : ∀ x, xs[i]? = some x → P x H) : (Itt K a).go i H ∧ ∀ x H', (Itt K a).yld i H x H' → P x H' := by
  refine ⟨⟨xs, xs[i], h, List.getElem?_eq_getElem hi⟩, ?_⟩
  rintro x H' ⟨rfl, e⟩
  exact p x (e xs h)
theorem tt_end (h : SqT K H a xs) : (Itt K a).stop xs.length H := ⟨xs, h, Nat.le_refl _⟩
theorem tl_go {P : V → Hp → Prop} (h : SqL K H a xs) (hi : i < xs.length) (p : ∀ x, xs[i]? = some x → P x H) : (Itl K a).go i H ∧ ∀ x H', (Itl K a).yld i H x H' → P x H' := by
  refine ⟨⟨xs, xs[i], h, List.getElem?_eq_getElem hi⟩, ?_⟩
  rintro x H' ⟨rfl, e⟩
  exact p x (e xs h)
theorem tl_end (h : SqL K H a xs) : (Itl K a).stop xs.length H := ⟨xs, h, Nat.le_refl _⟩
theorem tc_go {P : V → Hp → Prop} {lo c : Int} {n : Nat} (hi : i < n) (p : P (.int (lo + (i : Nat) * c)) H) : (Itc lo c n).go i H ∧ ∀ x H', (Itc lo c n).yld i H x H' → P x H' := by
  refine ⟨hi, ?_⟩
  rintro x H' ⟨rfl, rfl⟩
  exact p
theorem tc_end {lo c : Int} {n : Nat} : (Itc lo c n).stop n H := Nat.le_refl n
theorem tr_go {P : V → Hp → Prop} {lo : Int} {n : Nat} (hi : i < n) (p : P (.int (lo + i)) H) : (Itr lo n).go i H ∧ ∀ x H', (Itr lo n).yld i H x H' → P x H' := by
  refine ⟨hi, ?_⟩
  rintro x H' ⟨rfl, rfl⟩
  exact p
theorem tr_end {lo : Int} {n : Nat} : (Itr lo n).stop n H := Nat.le_refl n
end
section
variable {K : PySem.W.Frag} {H : Hp}
/-- what a tuple's data tells -/
theorem dp_tup {v : V} {ds : List PyData} (h : Dp K H v (.tuple ds)) : ∃ a xs, v = .ref a ∧ SqT K H a xs ∧ DpAll K H xs ds := by
  cases h with
  | tup hs ha => exact ⟨_, _, rfl, hs, ha⟩
theorem dp_lst {v : V} {ds : List PyData} (h : Dp K H v (.list ds)) : ∃ a xs, v = .ref a ∧ SqL K H a xs ∧ DpAll K H xs ds := by
  cases h with
  | lst hs ha => exact ⟨_, _, rfl, hs, ha⟩
theorem dp_int {v : V} {i : Int} (h : Dp K H v (.int i)) : v = .int i := by
  cases h
  rfl
theorem dp_bool {v : V} {b : Bool} (h : Dp K H v (.bool b)) : v = .bl b := by
  cases h
  rfl
theorem dpAll_two {xs : List V} {d e : PyData} (h : DpAll K H xs [d, e]) : ∃ x y, xs = [x, y] ∧ Dp K H x d ∧ Dp K H y e := by
  cases h with
  | cons a t =>
    cases t with
    | cons b t =>
      cases t
      exact ⟨_, _, rfl, a, b⟩
theorem dpAll_three {xs : List V} {d e f : PyData} (h : DpAll K H xs [d, e, f]) : ∃ x y z, xs = [x, y, z] ∧ Dp K H x d ∧ Dp K H y e ∧ Dp K H z f := by
  cases h with
  | cons a t =>
    obtain ⟨y, z, rfl, b, c⟩ := dpAll_two t
    exact ⟨_, _, _, rfl, a, b, c⟩
theorem dpAll_four {xs : List V} {d e f g : PyData} (h : DpAll K H xs [d, e, f, g]) : ∃ x y z w, xs = [x, y, z, w] ∧ Dp K H x d ∧ Dp K H y e ∧ Dp K H z f ∧ Dp K H w g := by
  cases h with
  | cons a t =>
    obtain ⟨y, z, w, rfl, b, c, k⟩ := dpAll_three t
    exact ⟨_, _, _, _, rfl, a, b, c, k⟩
theorem dpAll_at : ∀ {ds : List PyData} {vs : List V} {i : Nat} {d : PyData}, DpAll K H vs ds → ds[i]? = some d → ∃ v, vs[i]? = some v ∧ Dp K H v d
  | [], _, _, _, .nil, h => by simp at h
  | _ :: _, _, 0, _, .cons hd _, h => by
    simp at h
    subst h
    exact ⟨_, rfl, hd⟩
  | _ :: _, _, i + 1, _, .cons _ t, h => by
    obtain ⟨v, h1, h2⟩ := dpAll_at (i := i) t (by simpa using h)
    exact ⟨v, by simpa using h1, h2⟩
theorem dp_pair {v : V} {i j : Int} (h : Dp K H v (.tuple [.int i, .int j])) : ∃ a, v = .ref a ∧ SqT K H a [.int i, .int j] := by
  obtain ⟨a, xs, rfl, hs, ha⟩ := dp_tup h
  obtain ⟨x, y, rfl, h1, h2⟩ := dpAll_two ha
  obtain rfl := dp_int h1
  obtain rfl := dp_int h2
  exact ⟨a, rfl, hs⟩
end

theorem ixN_last (n : Nat) : ixN (n + 1) (-1) = some n := by
  unfold ixN
  rw [if_neg (by omega), if_pos (by omega)]
  congr 1
  omega
theorem set_last {α : Type} (l : List α) (a b : α) : (l ++ [a]).set l.length b = l ++ [b] := by
  rw [List.set_append_right _ _ (Nat.le_refl _), Nat.sub_self]
  rfl
theorem nil_or_snoc {α : Type} (l : List α) : l = [] ∨ ∃ r z, l = r ++ [z] := by
  by_cases h : l = []
  · exact .inl h
  · exact .inr ⟨l.dropLast, l.getLast h, (List.dropLast_concat_getLast h).symm⟩
/-- range(0, n, 2), n even -/
theorem size_two {n m : Nat} (h : n = 2 * m) : Builtin.Range.rangeSize 0 (n : Int) 2 = m := by
  unfold Builtin.Range.rangeSize
  rw [if_pos (by decide)]
  by_cases z : (0 : Int) < (n : Int)
  · rw [if_pos z]
    omega
  · rw [if_neg z]
    omega
theorem rgc_two {n m : Nat} (h : n = 2 * m) (hn : n ≤ 1000000) : RgC 0 (n : Int) 2 m := by
  refine ⟨by decide, by decide, ?_, size_two h⟩
  unfold Builtin.Range.small
  rw [size_two h]
  have f : ∀ i : Int, -(2 ^ 63) ≤ i → i < 2 ^ 63 → Builtin.Range.rangeFitsLong i = true := fun i h1 h2 => by
    unfold Builtin.Range.rangeFitsLong
    rw [decide_eq_true h1, decide_eq_true h2]
    rfl
  rw [f 0 (by omega) (by omega), f 2 (by omega) (by omega), f (n : Int) (by omega) (by omega), f (m : Int) (by omega) (by omega)]
  rw [show (if (2 : Int) > 0 then Builtin.Range.rangeFitsLong ((n : Int) + (2 - 1)) else Builtin.Range.rangeFitsLong ((n : Int) + (2 + 1))) = true by
    rw [if_pos (by decide)]
    exact f _ (by omega) (by omega)]
  simp
/-! readings opened by one step -/
section
variable {σ : L2.St} {H : Hp} {Q : VK} {D : Ends}
theorem tAsg_eq {te : TE} {g : TG} : tAsg te g D σ H = te σ H fun x H1 => g x σ H1 D.nx := rfl
theorem tCB_eq {r : List V → Hp → VK → Prop} {t : TA} : tCB r t σ H Q = t σ H fun vs H1 => r vs H1 Q := rfl
theorem tCons_eq {ta : TE} {tr : TA} {Q : List V → Hp → Prop} : tCons ta tr σ H Q = ta σ H fun x H1 => tr σ H1 fun xs H2 => Q (x :: xs) H2 := rfl
theorem tOp_eq {r : R2} {ta tb : TE} : tOp r ta tb σ H Q = ta σ H fun x H1 => tb σ H1 fun y H2 => r x y H2 Q := rfl
/-- a test with one answer, then its branch -/
theorem tIfS_of {tc : L2.St → Hp → (Bool → Hp → Prop) → Prop} {t u : TS} (b : Bool) (h : ∀ Kt : Bool → Hp → Prop, Kt b H → tc σ H Kt) (h2 : if b = true then t D σ H else u D σ H) : tIfS tc t u D σ H := h _ h2
theorem tRet_eq {te : TE} : tRet te D σ H = te σ H D.rt := rfl
end
end Vf

/-! Spans and forms: the mathematics, apart from the program. -/
namespace Fm
/-! ### parity of places -/
/-- whether an odd number of the places are at or before z -/
def odd (z : Int) : List Int → Bool
  | [] => false
  | c :: r => xor (decide (c ≤ z)) (odd z r)
theorem odd_app (z : Int) (a b : List Int) : odd z (a ++ b) = xor (odd z a) (odd z b) := by
  induction a with
  | nil => simp [odd]
  | cons c r ih => simp [odd, ih]
theorem odd_far {z : Int} : ∀ {l : List Int}, (∀ c ∈ l, z < c) → odd z l = false
  | [], _ => rfl
  | c :: r, h => by
    have h1 := h c List.mem_cons_self
    have h2 := odd_far (z := z) (l := r) fun d hd => h d (List.mem_cons_of_mem _ hd)
    simp only [odd, h2, Bool.xor_false, decide_eq_false_iff_not]
    omega
theorem odd_perm {z : Int} {a b : List Int} (h : a.Perm b) : odd z a = odd z b := by
  induction h with
  | nil => rfl
  | cons x _ ih => simp [odd, ih]
  | swap x y l =>
    simp only [odd]
    cases decide (x ≤ z) <;> cases decide (y ≤ z) <;> cases odd z l <;> rfl
  | trans _ _ h1 h2 => exact h1.trans h2

/-! ### spans -/
abbrev Spans := List (Int × Int)
def inS (z : Int) (s : Spans) : Bool := s.any fun p => decide (p.1 ≤ z) && decide (z < p.2)
def ends : Spans → List Int
  | [] => []
  | (a, b) :: r => a :: b :: ends r
/-- each span begins beyond the end of the one before it -/
def Ok : Spans → Prop
  | [] => True
  | (a, b) :: r => a < b ∧ (∀ p ∈ r, b < p.1) ∧ Ok r
theorem ends_far {b : Int} : ∀ {r : Spans}, Ok r → (∀ p ∈ r, b < p.1) → ∀ c ∈ ends r, b < c
  | [], _, _, _, h => by cases h
  | (a, d) :: r, ok, far, c, h => by
    have h1 : b < a := far (a, d) List.mem_cons_self
    have h2 : a < d := ok.1
    simp only [ends, List.mem_cons] at h
    rcases h with rfl | rfl | h
    · exact h1
    · omega
    · exact ends_far ok.2.2 (fun p hp => far p (List.mem_cons_of_mem _ hp)) c h
theorem inS_far {z : Int} {r : Spans} (h : ∀ p ∈ r, z < p.1) : inS z r = false := by
  unfold inS
  rw [List.any_eq_false]
  intro p hp
  have := h p hp
  simp only [Bool.and_eq_true, decide_eq_true_eq, not_and]
  omega
theorem inS_cons (z : Int) (p : Int × Int) (r : Spans) : inS z (p :: r) = ((decide (p.1 ≤ z) && decide (z < p.2)) || inS z r) := by simp [inS]
theorem inS_odd {z : Int} : ∀ {s : Spans}, Ok s → inS z s = odd z (ends s)
  | [], _ => rfl
  | (a, b) :: r, ok => by
    obtain ⟨h1, h2, h3⟩ := ok
    rw [inS_cons]
    simp only [ends, odd]
    by_cases hz : z < b
    · have f1 : inS z r = false := inS_far fun p hp => by have := h2 p hp; omega
      have f2 : odd z (ends r) = false := odd_far fun c hc => by have := ends_far h3 h2 c hc; omega
      have f3 : decide (b ≤ z) = false := decide_eq_false (by omega)
      rw [f1, f2, f3, decide_eq_true hz]
      simp
    · have f3 : decide (b ≤ z) = true := decide_eq_true (by omega)
      have f4 : decide (a ≤ z) = true := decide_eq_true (by omega)
      rw [inS_odd h3, f3, f4, decide_eq_false hz]
      simp
/-- spans are told by their places -/
theorem spans_eq : ∀ {s t : Spans}, Ok s → Ok t → (∀ z, inS z s = inS z t) → s = t
  | [], [], _, _, _ => rfl
  | [], (c, d) :: r, _, ok, h => by
    have := h c
    rw [inS_cons] at this
    simp [inS, ok.1] at this
  | (a, b) :: r, [], ok, _, h => by
    have := h a
    rw [inS_cons] at this
    simp [inS, ok.1] at this
  | (a, b) :: r, (c, d) :: q, ok, ok', h => by
    obtain ⟨h1, h2, h3⟩ := ok
    obtain ⟨g1, g2, g3⟩ := ok'
    have eac : a = c := by
      rcases Int.lt_trichotomy a c with l | l | l
      · have := h a
        rw [inS_cons, inS_cons] at this
        have f : inS a q = false := inS_far fun p hp => by have := g2 p hp; omega
        simp [f, h1] at this
        omega
      · exact l
      · have := h c
        rw [inS_cons, inS_cons] at this
        have f : inS c r = false := inS_far fun p hp => by have := h2 p hp; omega
        simp [f, g1] at this
        omega
    subst eac
    have ebd : b = d := by
      rcases Int.lt_trichotomy b d with l | l | l
      · have := h b
        rw [inS_cons, inS_cons] at this
        have f : inS b r = false := inS_far h2
        simp [f, l] at this
        omega
      · exact l
      · have := h d
        rw [inS_cons, inS_cons] at this
        have f : inS d q = false := inS_far g2
        simp [f, l] at this
        omega
    subst ebd
    congr 1
    refine spans_eq h3 g3 fun z => ?_
    by_cases hz : b < z
    · have := h z
      rw [inS_cons, inS_cons] at this
      have e : decide (z < b) = false := decide_eq_false (by omega)
      simp only [e, Bool.and_false, Bool.false_or] at this
      exact this
    · rw [inS_far fun p hp => by have := h2 p hp; omega, inS_far fun p hp => by have := g2 p hp; omega]

/-! ### the sweep -/
/-- places in ascending order, pairwise -/
def pairUp : List Int → Spans
  | a :: b :: r => (a, b) :: pairUp r
  | _ => []
def Up : List Int → Prop := List.Pairwise (· < ·)
theorem pairUp_far {b : Int} : ∀ {l : List Int}, (∀ c ∈ l, b < c) → ∀ p ∈ pairUp l, b < p.1
  | [], _, _, h => by cases h
  | [_], _, _, h => by cases h
  | a :: d :: r, h, p, hp => by
    simp only [pairUp, List.mem_cons] at hp
    rcases hp with rfl | hp
    · exact h a List.mem_cons_self
    · exact pairUp_far (fun c hc => h c (List.mem_cons_of_mem _ (List.mem_cons_of_mem _ hc))) p hp
theorem pairUp_ok : ∀ {l : List Int}, Up l → Ok (pairUp l)
  | [], _ => trivial
  | [_], _ => trivial
  | a :: b :: r, h => by
    have h1 := List.pairwise_cons.mp h
    have h2 := List.pairwise_cons.mp h1.2
    exact ⟨h1.1 b List.mem_cons_self, pairUp_far h2.1, pairUp_ok h2.2⟩
theorem ends_pairUp : ∀ {l : List Int}, l.length % 2 = 0 → ends (pairUp l) = l
  | [], _ => rfl
  | [_], h => by simp at h
  | a :: b :: r, h => by
    simp only [pairUp, ends]
    rw [ends_pairUp (l := r) (by simp only [List.length_cons] at h; omega)]
/-- one mark: a place, and of which of the two it is -/
abbrev Mark := Int × Bool
/-- whether it is kept, by being in the first and in the second -/
abbrev Keep := Bool → Bool → Bool
def flip (s : Bool × Bool) (w : Bool) : Bool × Bool := if w then (!s.1, s.2) else (s.1, !s.2)
def put (y : Int) (cuts : List Int) : List Int := if cuts.getLast? = some y then cuts.dropLast else cuts ++ [y]
def turn (k : Keep) (c : List Int × Bool × Bool) (m : Mark) : List Int × Bool × Bool :=
  let s := flip c.2 m.2
  (if k s.1 s.2 ≠ k c.2.1 c.2.2 then put m.1 c.1 else c.1, s)
def sweep (k : Keep) (ms : List Mark) : List Int × Bool × Bool := ms.foldl (turn k) ([], false, false)
theorem odd_put (z y : Int) (cuts : List Int) : odd z (put y cuts) = xor (odd z cuts) (decide (y ≤ z)) := by
  unfold put
  split
  · rename_i h
    obtain ⟨r, rfl⟩ : ∃ r, cuts = r ++ [y] := by
      have ne : cuts ≠ [] := fun e => by rw [e] at h; simp at h
      refine ⟨cuts.dropLast, ?_⟩
      have e : cuts.getLast ne = y := by
        rw [List.getLast?_eq_some_getLast ne] at h
        exact Option.some.inj h
      conv => lhs; rw [← List.dropLast_concat_getLast ne]
      rw [e]
    rw [List.dropLast_concat, odd_app]
    simp [odd]
  · rw [odd_app]
    simp [odd]
/-- places ascend, and none is beyond y -/
def UpTo (y : Int) (l : List Int) : Prop := Up l ∧ ∀ c ∈ l, c ≤ y
theorem put_up {y : Int} {l : List Int} (h : UpTo y l) : UpTo y (put y l) := by
  obtain ⟨h1, h2⟩ := h
  unfold put
  split
  · exact ⟨List.Pairwise.sublist (List.dropLast_sublist l) h1, fun c hc => h2 c (List.dropLast_subset l hc)⟩
  · rename_i n
    refine ⟨List.pairwise_append.mpr ⟨h1, List.pairwise_singleton _ _, fun c hc d hd => ?_⟩, fun c hc => ?_⟩
    · rw [List.mem_singleton.mp hd]
      have le := h2 c hc
      rcases Int.lt_or_eq_of_le le with l | e
      · exact l
      · exfalso
        -- a place that is y is the last one
        apply n
        subst e
        have ne : l ≠ [] := fun e => by rw [e] at hc; cases hc
        rw [List.getLast?_eq_some_getLast ne]
        congr 1
        have hl := h2 _ (List.getLast_mem ne)
        have hge : c ≤ l.getLast ne := by
          rw [← List.dropLast_concat_getLast ne] at hc h1
          rcases List.mem_append.mp hc with hc | hc
          · have := (List.pairwise_append.mp h1).2.2 c hc _ (List.mem_singleton.mpr rfl)
            omega
          · rw [List.mem_singleton.mp hc]
            exact Int.le_refl _
        omega
    · rcases List.mem_append.mp hc with hc | hc
      · exact h2 c hc
      · rw [List.mem_singleton.mp hc]
        exact Int.le_refl _
/-- marks in ascending order -/
def Asc (ms : List Mark) : Prop := ms.Pairwise fun a b => a.1 ≤ b.1
theorem foldl_up {k : Keep} : ∀ {ms : List Mark} {c : List Int × Bool × Bool} {y : Int}, Asc ms → (∀ m ∈ ms, y ≤ m.1) → UpTo y c.1 → Up (ms.foldl (turn k) c).1
  | [], _, _, _, _, h => h.1
  | m :: ms, c, y, asc, lo, h => by
    have a := List.pairwise_cons.mp asc
    have hy := lo m List.mem_cons_self
    have h' : UpTo m.1 c.1 := ⟨h.1, fun d hd => Int.le_trans (h.2 d hd) hy⟩
    show Up (ms.foldl (turn k) (turn k c m)).1
    refine foldl_up (y := m.1) a.2 a.1 ?_
    unfold turn
    dsimp only
    split
    · exact put_up h'
    · exact h'
theorem sweep_up {k : Keep} {ms : List Mark} (asc : Asc ms) : Up (sweep k ms).1 := by
  cases ms with
  | nil => exact List.Pairwise.nil
  | cons m ms => exact foldl_up (y := m.1) asc (fun d hd => by
      rcases List.mem_cons.mp hd with rfl | hd
      · exact Int.le_refl _
      · exact (List.pairwise_cons.mp asc).1 d hd) ⟨List.Pairwise.nil, fun c hc => by cases hc⟩
/-- the state behind the marks at or before z -/
def stAt (z : Int) (s : Bool × Bool) : List Mark → Bool × Bool
  | [] => s
  | m :: r => stAt z (if m.1 ≤ z then flip s m.2 else s) r
theorem foldl_far {k : Keep} {z : Int} : ∀ {ms : List Mark} {c : List Int × Bool × Bool}, (∀ m ∈ ms, z < m.1) → odd z (ms.foldl (turn k) c).1 = odd z c.1
  | [], _, _ => rfl
  | m :: ms, c, h => by
    have h1 := h m List.mem_cons_self
    rw [List.foldl_cons, foldl_far fun d hd => h d (List.mem_cons_of_mem _ hd)]
    unfold turn
    dsimp only
    split
    · rw [odd_put, decide_eq_false (by omega), Bool.xor_false]
    · rfl
theorem stAt_far {z : Int} : ∀ {ms : List Mark} {s : Bool × Bool}, (∀ m ∈ ms, z < m.1) → stAt z s ms = s
  | [], _, _ => rfl
  | m :: ms, s, h => by
    have h1 := h m List.mem_cons_self
    simp only [stAt]
    rw [if_neg (by omega), stAt_far fun d hd => h d (List.mem_cons_of_mem _ hd)]
theorem foldl_odd {k : Keep} {z : Int} : ∀ {ms : List Mark} {c : List Int × Bool × Bool}, Asc ms →
    odd z (ms.foldl (turn k) c).1 = xor (odd z c.1) (xor (k c.2.1 c.2.2) (k (stAt z c.2 ms).1 (stAt z c.2 ms).2))
  | [], c, _ => by simp [stAt]
  | m :: ms, c, asc => by
    have a := List.pairwise_cons.mp asc
    by_cases hz : m.1 ≤ z
    · rw [List.foldl_cons, foldl_odd a.2]
      have e2 : (turn k c m).2 = flip c.2 m.2 := rfl
      have e1 : odd z (turn k c m).1 = xor (odd z c.1) (xor (k (flip c.2 m.2).1 (flip c.2 m.2).2) (k c.2.1 c.2.2)) := by
        unfold turn
        dsimp only
        split
        · rename_i h
          rw [odd_put, decide_eq_true hz]
          revert h
          cases k (flip c.2 m.2).1 (flip c.2 m.2).2 <;> cases k c.2.1 c.2.2 <;> simp
        · rename_i h
          simp only [ne_eq, Decidable.not_not] at h
          rw [h]
          simp
      simp only [stAt, if_pos hz, e2, e1]
      cases odd z c.1 <;> cases k (flip c.2 m.2).1 (flip c.2 m.2).2 <;> cases k c.2.1 c.2.2 <;> simp
    · have far : ∀ d ∈ m :: ms, z < d.1 := fun d hd => by
        rcases List.mem_cons.mp hd with rfl | hd
        · omega
        · have := a.1 d hd
          omega
      rw [foldl_far far, stAt_far far]
      simp
/-- the state tells of each of the two whether an odd number of its places is at or before z -/
theorem stAt_odd (z : Int) : ∀ (ms : List Mark) (s : Bool × Bool), stAt z s ms = (xor s.1 (odd z ((ms.filter (·.2)).map (·.1))), xor s.2 (odd z ((ms.filter (!·.2)).map (·.1))))
  | [], s => by simp [stAt, odd]
  | (y, w) :: ms, s => by
    simp only [stAt]
    rw [stAt_odd z ms]
    cases w <;> by_cases hz : y ≤ z <;> simp [flip, odd, hz]

/-! ### the combination of two lists of spans -/
theorem mark_first (a b : Spans) : ((((ends a).map fun y => (y, true)) ++ ((ends b).map fun y => (y, false))).filter (·.2)).map (·.1) = ends a := by
  rw [List.filter_append, List.map_append]
  have e1 : ∀ l : List Int, ((l.map fun y => ((y, true) : Mark)).filter (·.2)).map (·.1) = l := fun l => by
    induction l with
    | nil => rfl
    | cons y l ih => simp only [List.map_cons, List.filter_cons]; simpa using ih
  have e2 : ∀ l : List Int, ((l.map fun y => ((y, false) : Mark)).filter (·.2)).map (·.1) = [] := fun l => by
    induction l with
    | nil => rfl
    | cons y l ih => simp only [List.map_cons, List.filter_cons]; simpa using ih
  rw [e1, e2, List.append_nil]
theorem mark_second (a b : Spans) : ((((ends a).map fun y => (y, true)) ++ ((ends b).map fun y => (y, false))).filter (!·.2)).map (·.1) = ends b := by
  rw [List.filter_append, List.map_append]
  have e1 : ∀ l : List Int, ((l.map fun y => ((y, false) : Mark)).filter (!·.2)).map (·.1) = l := fun l => by
    induction l with
    | nil => rfl
    | cons y l ih => simp only [List.map_cons, List.filter_cons]; simpa using ih
  have e2 : ∀ l : List Int, ((l.map fun y => ((y, true) : Mark)).filter (!·.2)).map (·.1) = [] := fun l => by
    induction l with
    | nil => rfl
    | cons y l ih => simp only [List.map_cons, List.filter_cons]; simpa using ih
  rw [e1, e2, List.nil_append]
def marks (a b : Spans) : List Mark := ((ends a).map fun y => (y, true)) ++ ((ends b).map fun y => (y, false))
theorem ends_even : ∀ s : Spans, (ends s).length % 2 = 0
  | [] => rfl
  | (a, b) :: r => by
    have := ends_even r
    simp only [ends, List.length_cons]
    omega
/-- parity of a list's length, by places far behind -/
theorem odd_all {z : Int} : ∀ {l : List Int}, (∀ c ∈ l, c ≤ z) → odd z l = decide (l.length % 2 = 1)
  | [], _ => rfl
  | c :: r, h => by
    simp only [odd, List.length_cons]
    rw [odd_all fun d hd => h d (List.mem_cons_of_mem _ hd), decide_eq_true (h c List.mem_cons_self)]
    by_cases e : r.length % 2 = 1
    · rw [decide_eq_true e, decide_eq_false (by omega)]
      rfl
    · rw [decide_eq_false e, decide_eq_true (by omega)]
      rfl
theorem bound : ∀ l : List Int, ∃ z, ∀ c ∈ l, c ≤ z
  | [] => ⟨0, fun c hc => by cases hc⟩
  | a :: l => by
    obtain ⟨z, h⟩ := bound l
    refine ⟨if a ≤ z then z else a, fun c hc => ?_⟩
    rcases List.mem_cons.mp hc with rfl | hc
    · split <;> omega
    · have := h c hc
      split <;> omega
/-- what the sweep over all marks, in any ascending order, leaves -/
theorem sweep_spec {k : Keep} {a b : Spans} {ms : List Mark} (ha : Ok a) (hb : Ok b) (hk : k false false = false) (p : ms.Perm (marks a b)) (asc : Asc ms) :
    Ok (pairUp (sweep k ms).1) ∧ (sweep k ms).1.length % 2 = 0 ∧ ∀ z, inS z (pairUp (sweep k ms).1) = k (inS z a) (inS z b) := by
  have up := sweep_up (k := k) asc
  have st : ∀ z, stAt z (false, false) ms = (inS z a, inS z b) := fun z => by
    rw [stAt_odd]
    have p1 := odd_perm (z := z) ((p.filter (·.2)).map (·.1))
    have p2 := odd_perm (z := z) ((p.filter (!·.2)).map (·.1))
    rw [p1, p2]
    unfold marks
    rw [mark_first, mark_second, inS_odd ha, inS_odd hb]
    simp
  have od : ∀ z, odd z (sweep k ms).1 = k (inS z a) (inS z b) := fun z => by
    unfold sweep
    rw [foldl_odd asc, st z]
    simp [odd, hk]
  have even : (sweep k ms).1.length % 2 = 0 := by
    obtain ⟨z, hz⟩ := bound ((sweep k ms).1 ++ (ends a ++ ends b))
    have h1 := odd_all (z := z) (l := (sweep k ms).1) fun c hc => hz c (List.mem_append_left _ hc)
    have h2 := odd_all (z := z) (l := ends a) fun c hc => hz c (List.mem_append_right _ (List.mem_append_left _ hc))
    have h3 := odd_all (z := z) (l := ends b) fun c hc => hz c (List.mem_append_right _ (List.mem_append_right _ hc))
    rw [od z, inS_odd ha, inS_odd hb, h2, h3, decide_eq_false (by have := ends_even a; omega), decide_eq_false (by have := ends_even b; omega), hk] at h1
    have := of_decide_eq_false h1.symm
    omega
  refine ⟨pairUp_ok up, even, fun z => ?_⟩
  rw [inS_odd (pairUp_ok up), ends_pairUp even, od]
theorem put_len (y : Int) (l : List Int) : (put y l).length ≤ l.length + 1 := by
  unfold put
  split
  · rw [List.length_dropLast]
    omega
  · rw [List.length_append]
    exact Nat.le_refl _
theorem sweep_len_from {k : Keep} : ∀ (ms : List Mark) (c : List Int × Bool × Bool), (ms.foldl (turn k) c).1.length ≤ c.1.length + ms.length
  | [], c => Nat.le_refl _
  | m :: ms, c => by
    rw [List.foldl_cons]
    have h1 := sweep_len_from (k := k) ms (turn k c m)
    have h2 : (turn k c m).1.length ≤ c.1.length + 1 := by
      unfold turn
      dsimp only
      split
      · exact put_len _ _
      · omega
    rw [List.length_cons]
    omega

/-! ### forms -/
abbrev Slab := Int × Int × Spans
abbrev Form := List Slab
def inX (x : Int) (p : Slab) : Bool := decide (p.1 ≤ x) && decide (x < p.2.1)
/-- the spans in column x -/
def cross (x : Int) : Form → Spans
  | [] => []
  | p :: r => if inX x p = true then p.2.2 else cross x r
def Good (p : Slab) : Prop := p.1 < p.2.1 ∧ Ok p.2.2 ∧ p.2.2 ≠ []
def Next (p q : Slab) : Prop := p.2.1 ≤ q.1 ∧ (p.2.1 = q.1 → p.2.2 ≠ q.2.2)
def Links : Form → Prop
  | [] => True
  | [_] => True
  | p :: q :: r => Next p q ∧ Links (q :: r)
structure OkF (f : Form) : Prop where
  good : ∀ p ∈ f, Good p
  links : Links f
theorem OkF.tail {p : Slab} {r : Form} (h : OkF (p :: r)) : OkF r := ⟨fun q hq => h.good q (List.mem_cons_of_mem _ hq), by
  cases r with
  | nil => trivial
  | cons q r => exact h.links.2⟩
theorem OkF.later : ∀ {r : Form} {p : Slab}, OkF (p :: r) → ∀ q ∈ r, p.2.1 ≤ q.1
  | [], _, _, _, hq => by cases hq
  | o :: r, p, h, q, hq => by
    have h1 : Next p o := h.links.1
    rcases List.mem_cons.mp hq with rfl | hq
    · exact h1.1
    · have h2 := (h.tail).later q hq
      have h3 := (h.good o (List.mem_cons_of_mem _ List.mem_cons_self)).1
      have := h1.1
      omega
theorem cross_none {x : Int} : ∀ {f : Form}, (∀ p ∈ f, inX x p = false) → cross x f = []
  | [], _ => rfl
  | p :: r, h => by
    unfold cross
    rw [h p List.mem_cons_self, if_neg (by simp)]
    exact cross_none fun q hq => h q (List.mem_cons_of_mem _ hq)
theorem cross_before {x : Int} {f : Form} (h : ∀ p ∈ f, x < p.1) : cross x f = [] := cross_none fun p hp => by
  have := h p hp
  unfold inX
  rw [decide_eq_false (by omega), Bool.false_and]
theorem cross_ok {x : Int} : ∀ {f : Form}, OkF f → Ok (cross x f)
  | [], _ => trivial
  | p :: r, h => by
    unfold cross
    split
    · exact (h.good p List.mem_cons_self).2.1
    · exact cross_ok h.tail
/-- a form is told by its columns -/
theorem form_eq : ∀ {f g : Form}, OkF f → OkF g → (∀ x, cross x f = cross x g) → f = g
  | [], [], _, _, _ => rfl
  | [], p :: r, _, ok, h => by
    have g := ok.good p List.mem_cons_self
    have := h p.1
    unfold cross at this
    rw [if_pos (by unfold inX; rw [decide_eq_true (Int.le_refl _), decide_eq_true g.1]; rfl)] at this
    exact absurd this.symm g.2.2
  | p :: r, [], ok, _, h => by
    have g := ok.good p List.mem_cons_self
    have := h p.1
    unfold cross at this
    rw [if_pos (by unfold inX; rw [decide_eq_true (Int.le_refl _), decide_eq_true g.1]; rfl)] at this
    exact absurd this g.2.2
  | (a, b, s) :: r, (c, d, t) :: q, ok, ok', h => by
    have g1 := ok.good _ List.mem_cons_self
    have g2 := ok'.good _ List.mem_cons_self
    have l1 := ok.later
    have l2 := ok'.later
    have in1 : ∀ x, a ≤ x → x < b → cross x ((a, b, s) :: r) = s := fun x h1 h2 => by
      unfold cross
      rw [if_pos (by unfold inX; rw [decide_eq_true h1, decide_eq_true h2]; rfl)]
    have in2 : ∀ x, c ≤ x → x < d → cross x ((c, d, t) :: q) = t := fun x h1 h2 => by
      unfold cross
      rw [if_pos (by unfold inX; rw [decide_eq_true h1, decide_eq_true h2]; rfl)]
    have bf1 : ∀ x, x < a → cross x ((a, b, s) :: r) = [] := fun x hx => cross_before fun p hp => by
      rcases List.mem_cons.mp hp with rfl | hp
      · exact hx
      · have := l1 p hp
        have := g1.1
        dsimp only at *
        omega
    have bf2 : ∀ x, x < c → cross x ((c, d, t) :: q) = [] := fun x hx => cross_before fun p hp => by
      rcases List.mem_cons.mp hp with rfl | hp
      · exact hx
      · have := l2 p hp
        have := g2.1
        dsimp only at *
        omega
    have eac : a = c := by
      rcases Int.lt_trichotomy a c with l | l | l
      · have := h a
        rw [in1 a (Int.le_refl _) g1.1, bf2 a l] at this
        exact absurd this g1.2.2
      · exact l
      · have := h c
        rw [in2 c (Int.le_refl _) g2.1, bf1 c l] at this
        exact absurd this.symm g2.2.2
    subst eac
    have est : s = t := by
      have := h a
      rw [in1 a (Int.le_refl _) g1.1, in2 a (Int.le_refl _) g2.1] at this
      exact this
    subst est
    -- behind the end of the first slab stands something else
    have beyond : ∀ {b' : Int} {r' : Form}, OkF ((a, b', s) :: r') → cross b' ((a, b', s) :: r') ≠ s := fun {b' r'} o e => by
      have g := o.good _ List.mem_cons_self
      unfold cross at e
      rw [if_neg (by simp [inX])] at e
      cases r' with
      | nil => exact g.2.2 e.symm
      | cons o2 r2 =>
        have n : Next (a, b', s) o2 := o.links.1
        by_cases hb : b' = o2.1
        · unfold cross at e
          have go := o.good o2 (List.mem_cons_of_mem _ List.mem_cons_self)
          rw [if_pos (by unfold inX; rw [decide_eq_true (show o2.1 ≤ b' by omega), decide_eq_true (show b' < o2.2.1 by have := go.1; omega)]; rfl)] at e
          exact n.2 hb e.symm
        · have : cross b' (o2 :: r2) = [] := cross_before fun p hp => by
            rcases List.mem_cons.mp hp with rfl | hp
            · have := n.1
              dsimp only at *
              omega
            · have h1 := o.tail.later p hp
              have h2 := (o.good o2 (List.mem_cons_of_mem _ List.mem_cons_self)).1
              have h3 := n.1
              dsimp only at *
              omega
          rw [this] at e
          exact g.2.2 e.symm
    have ebd : b = d := by
      rcases Int.lt_trichotomy b d with l | l | l
      · have := h b
        rw [in2 b (by have := g1.1; dsimp only at *; omega) l] at this
        exact absurd this (beyond ok)
      · exact l
      · have := h d
        rw [in1 d (by have := g2.1; dsimp only at *; omega) l] at this
        exact absurd this.symm (beyond ok')
    subst ebd
    congr 1
    refine form_eq ok.tail ok'.tail fun x => ?_
    by_cases hx : x < b
    · rw [cross_before fun p hp => by have := l1 p hp; dsimp only at *; omega, cross_before fun p hp => by have := l2 p hp; dsimp only at *; omega]
    · have := h x
      unfold cross at this
      have e : inX x (a, b, s) = false := by unfold inX; rw [decide_eq_false (show ¬ x < b from hx), Bool.and_false]
      rw [e, if_neg (by simp), if_neg (by simp)] at this
      exact this

/-! ### steps into a form -/
def stepF (acc : Form) (q : Slab) : Form :=
  match acc.getLast? with
  | some p => if p.2.1 = q.1 ∧ p.2.2 = q.2.2 then acc.dropLast ++ [(p.1, q.2.1, q.2.2)] else if q.2.2 = [] then acc else acc ++ [q]
  | none => if q.2.2 = [] then acc else acc ++ [q]
theorem links_snoc : ∀ {a : Form} {p : Slab}, Links (a ++ [p]) ↔ Links a ∧ ∀ o, a.getLast? = some o → Next o p
  | [], p => by simp [Links]
  | [o], p => by simp [Links]
  | o :: q :: r, p => by
    have ih := links_snoc (a := q :: r) (p := p)
    simp only [List.cons_append, Links] at ih ⊢
    rw [ih, List.getLast?_cons_cons]
    exact ⟨fun ⟨h1, h2, h3⟩ => ⟨⟨h1, h2⟩, h3⟩, fun ⟨⟨h1, h2⟩, h3⟩ => ⟨h1, h2, h3⟩⟩
theorem cross_app (x : Int) : ∀ (a b : Form), cross x (a ++ b) = if a.any (inX x) = true then cross x a else cross x b
  | [], b => rfl
  | p :: a, b => by
    show (if inX x p = true then p.2.2 else cross x (a ++ b)) = if (p :: a).any (inX x) = true then (if inX x p = true then p.2.2 else cross x a) else cross x b
    by_cases i : inX x p = true
    · have e : (p :: a).any (inX x) = true := by simp [i]
      rw [if_pos i, if_pos e, if_pos i]
    · have f : inX x p = false := by simpa using i
      have e : (p :: a).any (inX x) = a.any (inX x) := by rw [List.any_cons, f, Bool.false_or]
      rw [if_neg i, if_neg i, e]
      exact cross_app x a b
theorem snoc_of {acc : Form} {p : Slab} (h : acc.getLast? = some p) : acc = acc.dropLast ++ [p] := by
  have ne : acc ≠ [] := fun e => by rw [e] at h; simp at h
  have e : acc.getLast ne = p := by
    rw [List.getLast?_eq_some_getLast ne] at h
    exact Option.some.inj h
  conv => lhs; rw [← List.dropLast_concat_getLast ne]
  rw [e]
/-- all slabs end at or before c -/
def Till (c : Int) (f : Form) : Prop := ∀ p ∈ f, p.2.1 ≤ c
theorem any_till {c x : Int} {f : Form} (h : Till c f) (hx : c ≤ x) : f.any (inX x) = false := by
  rw [List.any_eq_false]
  intro p hp
  have := h p hp
  unfold inX
  rw [decide_eq_false (show ¬ x < p.2.1 by omega), Bool.and_false]
  simp
theorem stepF_spec {acc : Form} {q : Slab} (h : OkF acc) (t : Till q.1 acc) (hq : q.1 < q.2.1) (hs : Ok q.2.2) :
    OkF (stepF acc q) ∧ Till q.2.1 (stepF acc q) ∧ ∀ x, cross x (stepF acc q) = if inX x q = true then q.2.2 else cross x acc := by
  have plain : q.2.2 = [] → ∀ x, cross x acc = if inX x q = true then q.2.2 else cross x acc := fun e x => by
    split
    · rename_i i
      unfold inX at i
      simp only [Bool.and_eq_true, decide_eq_true_eq] at i
      rw [e]
      refine cross_none fun p hp => ?_
      have := t p hp
      unfold inX
      rw [decide_eq_false (show ¬ x < p.2.1 by omega), Bool.and_false]
    · rfl
  have keep : Till q.2.1 acc := fun p hp => by have := t p hp; omega
  have more : q.2.2 ≠ [] → (∀ o, acc.getLast? = some o → Next o q) → OkF (acc ++ [q]) ∧ Till q.2.1 (acc ++ [q]) ∧ ∀ x, cross x (acc ++ [q]) = if inX x q = true then q.2.2 else cross x acc := fun ne nx => by
    refine ⟨⟨fun p hp => ?_, links_snoc.mpr ⟨h.links, nx⟩⟩, fun p hp => ?_, fun x => ?_⟩
    · rcases List.mem_append.mp hp with hp | hp
      · exact h.good p hp
      · rw [List.mem_singleton.mp hp]
        exact ⟨hq, hs, ne⟩
    · rcases List.mem_append.mp hp with hp | hp
      · exact keep p hp
      · rw [List.mem_singleton.mp hp]
        exact Int.le_refl _
    · rw [cross_app]
      by_cases i : inX x q = true
      · have hx : q.1 ≤ x := by
          unfold inX at i
          simp only [Bool.and_eq_true, decide_eq_true_eq] at i
          exact i.1
        rw [any_till t hx, if_neg (by simp), if_pos i]
        simp only [cross]
        rw [if_pos i]
      · rw [if_neg i]
        split
        · rfl
        · rename_i n
          simp only [cross]
          rw [if_neg i]
          refine (cross_none fun p hp => ?_).symm
          have n' : acc.any (inX x) = false := by simpa using n
          exact Bool.eq_false_iff.mpr (List.any_eq_false.mp n' p hp)
  unfold stepF
  cases e : acc.getLast? with
  | none =>
    dsimp only
    split
    · rename_i z
      exact ⟨h, keep, plain z⟩
    · rename_i z
      exact more z fun o ho => by rw [e] at ho; cases ho
  | some p =>
    dsimp only
    have sn := snoc_of e
    have hp : p ∈ acc := by
      rw [sn]
      exact List.mem_append_right _ (List.mem_singleton.mpr rfl)
    have gp := h.good p hp
    split
    · rename_i z
      obtain ⟨z1, z2⟩ := z
      have ok' : OkF (acc.dropLast ++ [p]) := by
        rw [← sn]
        exact h
      have lk := links_snoc.mp ok'.links
      refine ⟨⟨fun o ho => ?_, links_snoc.mpr ⟨lk.1, fun o ho => ?_⟩⟩, fun o ho => ?_, fun x => ?_⟩
      · rcases List.mem_append.mp ho with ho | ho
        · exact h.good o (List.dropLast_subset _ ho)
        · rw [List.mem_singleton.mp ho]
          refine ⟨?_, ?_, ?_⟩
          · show p.1 < q.2.1
            have := gp.1
            omega
          · exact hs
          · show q.2.2 ≠ []
            rw [← z2]
            exact gp.2.2
      · have n := lk.2 o ho
        refine ⟨n.1, fun y => ?_⟩
        show o.2.2 ≠ q.2.2
        rw [← z2]
        exact n.2 y
      · rcases List.mem_append.mp ho with ho | ho
        · exact keep o (List.dropLast_subset _ ho)
        · rw [List.mem_singleton.mp ho]
          exact Int.le_refl _
      · have e1 : cross x acc = if acc.dropLast.any (inX x) = true then cross x acc.dropLast else cross x [p] := by
          rw [← cross_app, ← sn]
        rw [cross_app, e1]
        simp only [cross]
        by_cases i : inX x q = true
        · have i' := i
          unfold inX at i'
          simp only [Bool.and_eq_true, decide_eq_true_eq] at i'
          have t' : Till q.1 acc.dropLast := fun o ho => t o (List.dropLast_subset _ ho)
          rw [any_till t' i'.1, if_neg (by simp), if_pos i]
          have : inX x (p.1, q.2.1, q.2.2) = true := by
            unfold inX
            have := gp.1
            rw [decide_eq_true (show p.1 ≤ x by omega), decide_eq_true (show x < q.2.1 by omega)]
            rfl
          rw [if_pos this]
        · rw [if_neg i]
          split
          · rfl
          · have same : inX x (p.1, q.2.1, q.2.2) = inX x p := by
              unfold inX at i ⊢
              simp only [Bool.and_eq_true, decide_eq_true_eq, not_and] at i
              show (decide (p.1 ≤ x) && decide (x < q.2.1)) = (decide (p.1 ≤ x) && decide (x < p.2.1))
              congr 1
              rw [decide_eq_decide]
              omega
            rw [same]
            show (if inX x p = true then q.2.2 else []) = if inX x p = true then p.2.2 else []
            rw [z2]
    · rename_i z
      split
      · rename_i w
        exact ⟨h, keep, plain w⟩
      · rename_i w
        refine more w fun o ho => ?_
        rw [e] at ho
        cases ho
        exact ⟨t p hp, fun y c => z ⟨y, c⟩⟩

abbrev Steps := List (Int × Spans)
def segs : Steps → Form
  | (a, s) :: (b, t) :: r => (a, b, s) :: segs ((b, t) :: r)
  | _ => []
def formOf (st : Steps) : Form := (segs st).foldl stepF []
def UpS (st : Steps) : Prop := st.Pairwise fun p q => p.1 < q.1
theorem segs_from {c : Int} : ∀ {st : Steps}, UpS st → (∀ p ∈ st, c ≤ p.1) → ∀ q ∈ segs st, c ≤ q.1
  | [], _, _, q, hq => by cases hq
  | [_], _, _, q, hq => by cases hq
  | (a, s) :: (b, t) :: r, up, h, q, hq => by
    simp only [segs, List.mem_cons] at hq
    rcases hq with rfl | hq
    · exact h (a, s) List.mem_cons_self
    · exact segs_from (List.pairwise_cons.mp up).2 (fun p hp => h p (List.mem_cons_of_mem _ hp)) q hq
theorem fold_spec : ∀ {st : Steps} {acc : Form}, UpS st → (∀ p ∈ st, Ok p.2) → OkF acc → (∀ p, st.head? = some p → Till p.1 acc) →
    OkF ((segs st).foldl stepF acc) ∧ ∀ x, cross x ((segs st).foldl stepF acc) = if (segs st).any (inX x) = true then cross x (segs st) else cross x acc
  | [], acc, _, _, h, _ => ⟨h, fun x => rfl⟩
  | [_], acc, _, _, h, _ => ⟨h, fun x => rfl⟩
  | (a, s) :: (b, t) :: r, acc, up, ok, h, till => by
    have u := List.pairwise_cons.mp up
    have hab : a < b := u.1 (b, t) List.mem_cons_self
    obtain ⟨h1, h2, h3⟩ := stepF_spec (q := (a, b, s)) h (till (a, s) rfl) hab (ok (a, s) List.mem_cons_self)
    have ih := fold_spec (st := (b, t) :: r) (acc := stepF acc (a, b, s)) u.2 (fun p hp => ok p (List.mem_cons_of_mem _ hp)) h1 (fun p hp => by
      cases hp
      exact h2)
    refine ⟨ih.1, fun x => ?_⟩
    have e := ih.2 x
    have e1 : (segs ((a, s) :: (b, t) :: r)) = (a, b, s) :: segs ((b, t) :: r) := rfl
    rw [e1, List.foldl_cons, e, h3 x]
    by_cases i : inX x (a, b, s) = true
    · have i' := i
      unfold inX at i'
      simp only [Bool.and_eq_true, decide_eq_true_eq] at i'
      have none : (segs ((b, t) :: r)).any (inX x) = false := by
        rw [List.any_eq_false]
        intro q hq
        have := segs_from (c := b) u.2 (fun p hp => by
          rcases List.mem_cons.mp hp with rfl | hp
          · exact Int.le_refl _
          · exact Int.le_of_lt ((List.pairwise_cons.mp u.2).1 p hp)) q hq
        unfold inX
        rw [decide_eq_false (show ¬ q.1 ≤ x by omega), Bool.false_and]
        simp
      have e2 : ((a, b, s) :: segs ((b, t) :: r)).any (inX x) = true := by simp [i]
      rw [none, if_neg (by simp), if_pos i, if_pos e2]
      simp only [cross]
      rw [if_pos i]
    · have f : inX x (a, b, s) = false := by simpa using i
      have e2 : ((a, b, s) :: segs ((b, t) :: r)).any (inX x) = (segs ((b, t) :: r)).any (inX x) := by rw [List.any_cons, f, Bool.false_or]
      rw [if_neg i, e2]
      simp only [cross]
      rw [if_neg i]
theorem formOf_spec {st : Steps} (up : UpS st) (ok : ∀ p ∈ st, Ok p.2) : OkF (formOf st) ∧ ∀ x, cross x (formOf st) = cross x (segs st) := by
  have h := fold_spec (acc := []) up ok ⟨(fun p hp => by cases hp), trivial⟩ (fun p _ q hq => absurd hq List.not_mem_nil)
  refine ⟨h.1, fun x => ?_⟩
  have := h.2 x
  unfold formOf
  rw [this]
  split
  · rfl
  · rename_i n
    symm
    exact cross_none fun p hp => Bool.eq_false_iff.mpr (List.any_eq_false.mp (by simpa using n) p hp)

/-! ### the combination of two forms, column by column -/
def edges : Form → List Int
  | [] => []
  | p :: r => p.1 :: p.2.1 :: edges r
theorem mem_edges {f : Form} {p : Slab} (h : p ∈ f) : p.1 ∈ edges f ∧ p.2.1 ∈ edges f := by
  induction f with
  | nil => cases h
  | cons q r ih =>
    simp only [edges, List.mem_cons]
    rcases List.mem_cons.mp h with rfl | h
    · exact ⟨.inl rfl, .inr (.inl rfl)⟩
    · exact ⟨.inr (.inr (ih h).1), .inr (.inr (ih h).2)⟩
/-- nothing changes between places -/
theorem cross_same {k x : Int} (hkx : k ≤ x) : ∀ {f : Form}, (∀ e ∈ edges f, ¬ (k < e ∧ e ≤ x)) → cross x f = cross k f
  | [], _ => rfl
  | p :: r, h => by
    have h1 := h p.1 (by simp [edges])
    have h2 := h p.2.1 (by simp [edges])
    have e : inX x p = inX k p := by
      unfold inX
      rw [Bool.eq_iff_iff]
      simp only [Bool.and_eq_true, decide_eq_true_eq]
      omega
    simp only [cross]
    rw [e, cross_same hkx fun c hc => h c (by simp [edges, hc])]
theorem cross_low {x : Int} {f : Form} (h : ∀ e ∈ edges f, x < e) : cross x f = [] := cross_none fun p hp => by
  have := h _ (mem_edges hp).1
  unfold inX
  rw [decide_eq_false (show ¬ p.1 ≤ x by omega), Bool.false_and]
theorem cross_high {x : Int} {f : Form} (h : ∀ e ∈ edges f, e ≤ x) : cross x f = [] := cross_none fun p hp => by
  have := h _ (mem_edges hp).2
  unfold inX
  rw [decide_eq_false (show ¬ x < p.2.1 by omega), Bool.and_false]
/-- which step a column belongs to -/
theorem segs_at {v : Int → Spans} {x : Int} : ∀ {ks : List Int}, ks.Pairwise (· < ·) →
    (∃ k ∈ ks, k ≤ x ∧ (∀ e ∈ ks, ¬ (k < e ∧ e ≤ x)) ∧ (∃ e ∈ ks, x < e) ∧ cross x (segs (ks.map fun k => (k, v k))) = v k) ∨
    ((∀ k ∈ ks, x < k) ∨ (∀ k ∈ ks, k ≤ x)) ∧ cross x (segs (ks.map fun k => (k, v k))) = []
  | [], _ => .inr ⟨.inl (fun k hk => by cases hk), rfl⟩
  | [k], _ => .inr ⟨by
      by_cases h : x < k
      · exact .inl fun e he => by rw [List.mem_singleton.mp he]; exact h
      · exact .inr fun e he => by rw [List.mem_singleton.mp he]; omega, rfl⟩
  | a :: b :: r, up => by
    have u := List.pairwise_cons.mp up
    have hab := u.1 b List.mem_cons_self
    have e1 : segs ((a :: b :: r).map fun k => (k, v k)) = (a, b, v a) :: segs ((b :: r).map fun k => (k, v k)) := rfl
    rw [e1]
    simp only [cross]
    by_cases i : inX x (a, b, v a) = true
    · have i' := i
      unfold inX at i'
      simp only [Bool.and_eq_true, decide_eq_true_eq] at i'
      rw [if_pos i]
      refine .inl ⟨a, List.mem_cons_self, i'.1, fun e he => ?_, ⟨b, List.mem_cons_of_mem _ List.mem_cons_self, i'.2⟩, rfl⟩
      rcases List.mem_cons.mp he with rfl | he
      · omega
      · have : b ≤ e := by
          rcases List.mem_cons.mp he with rfl | he
          · exact Int.le_refl _
          · exact Int.le_of_lt ((List.pairwise_cons.mp u.2).1 e he)
        omega
    · rw [if_neg i]
      have i' : ¬ (a ≤ x ∧ x < b) := by
        unfold inX at i
        simpa only [Bool.and_eq_true, decide_eq_true_eq] using i
      rcases segs_at (v := v) (x := x) u.2 with ⟨k, hk, h1, h2, ⟨e, he, h3⟩, h4⟩ | ⟨h | h, h4⟩
      · refine .inl ⟨k, List.mem_cons_of_mem _ hk, h1, fun c hc => ?_, ⟨e, List.mem_cons_of_mem _ he, h3⟩, h4⟩
        rcases List.mem_cons.mp hc with rfl | hc
        · have := u.1 k hk
          omega
        · exact h2 c hc
      · by_cases ha : x < a
        · refine .inr ⟨.inl fun k hk => ?_, h4⟩
          rcases List.mem_cons.mp hk with rfl | hk
          · exact ha
          · exact h k hk
        · have := h b List.mem_cons_self
          omega
      · refine .inr ⟨.inr fun k hk => ?_, h4⟩
        rcases List.mem_cons.mp hk with rfl | hk
        · have := h b List.mem_cons_self
          omega
        · exact h k hk
/-- c tells the spans of a column, by those of both: on every column it is as the keys have it -/
theorem comb_spec {c : Spans → Spans → Spans} {f g : Form} {ks : List Int} (up : ks.Pairwise (· < ·)) (hf : ∀ e ∈ edges f, e ∈ ks) (hg : ∀ e ∈ edges g, e ∈ ks) (c0 : c [] [] = []) (okc : ∀ x, Ok (c (cross x f) (cross x g))) :
    OkF (formOf (ks.map fun k => (k, c (cross k f) (cross k g)))) ∧ ∀ x, cross x (formOf (ks.map fun k => (k, c (cross k f) (cross k g)))) = c (cross x f) (cross x g) := by
  have upS : UpS (ks.map fun k => (k, c (cross k f) (cross k g))) := List.pairwise_map.mpr up
  have h := formOf_spec upS fun p hp => by
    obtain ⟨k, _, rfl⟩ := List.mem_map.mp hp
    exact okc k
  refine ⟨h.1, fun x => ?_⟩
  rw [h.2 x]
  rcases segs_at (v := fun k => c (cross k f) (cross k g)) (x := x) up with ⟨k, hk, h1, h2, _, h4⟩ | ⟨hl | hl, h4⟩
  · rw [h4, cross_same (f := f) h1 fun e he => h2 e (hf e he), cross_same (f := g) h1 fun e he => h2 e (hg e he)]
  · rw [h4, cross_low (f := f) fun e he => hl e (hf e he), cross_low (f := g) fun e he => hl e (hg e he), c0]
  · rw [h4, cross_high (f := f) fun e he => hl e (hf e he), cross_high (f := g) fun e he => hl e (hg e he), c0]

/-! ### the dict of steps -/
def setAt (x : Int) (o : Option Spans) (p : Slab) : Option Spans := if p.2.1 = x then some [] else if p.1 = x then some p.2.2 else o
def lookF (f : Form) (x : Int) : Option Spans := f.foldl (setAt x) none
theorem look_far {x : Int} : ∀ {f : Form} {o : Option Spans}, (∀ p ∈ f, x < p.1 ∧ x < p.2.1) → f.foldl (setAt x) o = o
  | [], _, _ => rfl
  | p :: r, o, h => by
    have := h p List.mem_cons_self
    rw [List.foldl_cons]
    have e : setAt x o p = o := by
      unfold setAt
      rw [if_neg (by omega), if_neg (by omega)]
    rw [e]
    exact look_far fun q hq => h q (List.mem_cons_of_mem _ hq)
theorem look_from {x : Int} : ∀ {f : Form} {o : Option Spans}, OkF f → f.foldl (setAt x) o = if x ∈ edges f then some (cross x f) else o
  | [], o, _ => by simp [edges]
  | p :: r, o, h => by
    have g := h.good p List.mem_cons_self
    have lt : p.1 < p.2.1 := g.1
    rw [List.foldl_cons, look_from h.tail]
    by_cases hr : x ∈ edges r
    · have hx : x ∈ edges (p :: r) := by simp [edges, hr]
      rw [if_pos hr, if_pos hx]
      -- x is at or behind the end of p
      have : p.2.1 ≤ x := by
        clear hx
        have l := h.later
        have gd := h.tail.good
        induction r with
        | nil => cases hr
        | cons q r ih =>
          simp only [edges, List.mem_cons] at hr
          have h1 := l q List.mem_cons_self
          have h2 := (gd q List.mem_cons_self).1
          rcases hr with rfl | rfl | hr
          · exact h1
          · omega
          · have ok2 : OkF (p :: r) := ⟨fun o ho => by
              rcases List.mem_cons.mp ho with rfl | ho
              · exact g
              · exact gd o (List.mem_cons_of_mem _ ho), by
              cases r with
              | nil => trivial
              | cons o r =>
                have lk := h.links.2
                have n1 : Next q o := lk.1
                exact ⟨⟨by have := n1.1; omega, fun e => by have := n1.1; omega⟩, lk.2⟩⟩
            exact ih ok2 hr (fun o ho => l o (List.mem_cons_of_mem _ ho)) (fun o ho => gd o (List.mem_cons_of_mem _ ho))
      simp only [cross]
      rw [if_neg (by unfold inX; rw [decide_eq_false (show ¬ x < p.2.1 by omega), Bool.and_false]; simp)]
    · rw [if_neg hr]
      unfold setAt
      by_cases e2 : p.2.1 = x
      · subst e2
        rw [if_pos rfl, if_pos (by simp [edges])]
        congr 1
        simp only [cross]
        rw [if_neg (by unfold inX; rw [decide_eq_false (show ¬ p.2.1 < p.2.1 by omega), Bool.and_false]; simp)]
        refine (cross_before fun q hq => ?_).symm
        have h1 := h.later q hq
        have h2 : q.1 ∈ edges r := (mem_edges hq).1
        rcases Int.lt_or_eq_of_le h1 with l | l
        · exact l
        · rw [l] at hr
          exact absurd h2 hr
      · rw [if_neg e2]
        by_cases e1 : p.1 = x
        · subst e1
          rw [if_pos rfl, if_pos (by simp [edges])]
          congr 1
          simp only [cross]
          rw [if_pos (by unfold inX; rw [decide_eq_true (Int.le_refl _), decide_eq_true lt]; rfl)]
        · rw [if_neg e1, if_neg (by simp only [edges, List.mem_cons, not_or]; exact ⟨fun z => e1 z.symm, fun z => e2 z.symm, hr⟩)]
theorem look_spec {f : Form} (h : OkF f) (x : Int) : lookF f x = if x ∈ edges f then some (cross x f) else none := look_from h

/-! ### places in order -/
def ins (x : Int) : List Int → List Int
  | [] => [x]
  | y :: r => if x < y then x :: y :: r else if x = y then y :: r else y :: ins x r
theorem mem_ins {x z : Int} : ∀ {l : List Int}, z ∈ ins x l ↔ z = x ∨ z ∈ l
  | [] => by simp [ins]
  | y :: r => by
    unfold ins
    split
    · simp
    · split
      · rename_i e
        subst e
        simp
      · simp only [List.mem_cons, mem_ins (l := r)]
        constructor
        · rintro (h | h | h)
          · exact .inr (.inl h)
          · exact .inl h
          · exact .inr (.inr h)
        · rintro (h | h | h)
          · exact .inr (.inl h)
          · exact .inl h
          · exact .inr (.inr h)
theorem ins_up {x : Int} : ∀ {l : List Int}, Up l → Up (ins x l)
  | [], _ => List.pairwise_singleton _ _
  | y :: r, h => by
    have u := List.pairwise_cons.mp h
    unfold ins
    split
    · rename_i lt
      refine List.pairwise_cons.mpr ⟨fun z hz => ?_, h⟩
      rcases List.mem_cons.mp hz with rfl | hz
      · exact lt
      · exact Int.lt_trans lt (u.1 z hz)
    · split
      · exact h
      · rename_i n1 n2
        refine List.pairwise_cons.mpr ⟨fun z hz => ?_, ins_up u.2⟩
        rcases mem_ins.mp hz with rfl | hz
        · omega
        · exact u.1 z hz
def order : List Int → List Int
  | [] => []
  | x :: r => ins x (order r)
theorem order_up : ∀ l : List Int, Up (order l)
  | [] => List.Pairwise.nil
  | x :: r => ins_up (order_up r)
theorem mem_order {z : Int} : ∀ {l : List Int}, z ∈ order l ↔ z ∈ l
  | [] => Iff.rfl
  | x :: r => by
    show z ∈ ins x (order r) ↔ _
    rw [mem_ins, mem_order (l := r), List.mem_cons]
theorem up_len : ∀ {l m : List Int}, Up l → (∀ x ∈ l, x ∈ m) → l.length ≤ m.length
  | [], _, _, _ => Nat.zero_le _
  | x :: l, m, up, h => by
    have u := List.pairwise_cons.mp up
    have hx := h x List.mem_cons_self
    have ih := up_len (l := l) (m := m.erase x) u.2 fun y hy => by
      have ne : y ≠ x := fun e => by
        have := u.1 y hy
        omega
      exact (List.mem_erase_of_ne ne).mpr (h y (List.mem_cons_of_mem _ hy))
    have e := List.length_erase_of_mem hx
    have pos : 0 < m.length := List.length_pos_of_mem hx
    rw [List.length_cons]
    omega
theorem edges_len (f : Form) : (edges f).length = 2 * f.length := by
  induction f with
  | nil => rfl
  | cons p r ih =>
    simp only [edges, List.length_cons, ih]
    omega
/-- the spans that stand ahead of the i-th place -/
def prev (ns : List Int) (i : Nat) (f : Form) : Spans := if i = 0 then [] else cross (ns.getD (i - 1) 0) f
theorem prev_next {ns : List Int} {i : Nat} {x : Int} {f : Form} (up : Up ns) (hx : ns[i]? = some x) (ok : OkF f) (he : ∀ e ∈ edges f, e ∈ ns) : (lookF f x).getD (prev ns i f) = cross x f := by
  rw [look_spec ok]
  by_cases h : x ∈ edges f
  · rw [if_pos h]
    rfl
  · rw [if_neg h]
    show prev ns i f = cross x f
    have hi : i < ns.length := (List.getElem?_eq_some_iff.mp hx).1
    have ex : ns[i] = x := (List.getElem?_eq_some_iff.mp hx).2
    have lt : ∀ (a b : Nat) (ha : a < ns.length) (hb : b < ns.length), a < b → ns[a] < ns[b] := fun a b ha hb h => List.pairwise_iff_getElem.mp up a b ha hb h
    unfold prev
    by_cases z : i = 0
    · rw [if_pos z]
      subst z
      refine (cross_low fun e hee => ?_).symm
      obtain ⟨j, hj, ej⟩ := List.getElem_of_mem (he e hee)
      have ne : e ≠ x := fun q => h (by rw [← q]; exact hee)
      by_cases j0 : j = 0
      · subst j0
        exact absurd (ej.symm.trans ex) ne
      · have := lt 0 j hi hj (by omega)
        omega
    · rw [if_neg z]
      have hp : i - 1 < ns.length := by omega
      have eg : ns.getD (i - 1) 0 = ns[i - 1] := by
        rw [List.getD_eq_getElem?_getD, List.getElem?_eq_getElem hp]
        rfl
      rw [eg]
      have lx := lt (i - 1) i hp hi (by omega)
      refine (cross_same (k := ns[i - 1]) (by omega) fun e hee => ?_).symm
      rintro ⟨h1, h2⟩
      obtain ⟨j, hj, ej⟩ := List.getElem_of_mem (he e hee)
      have ne : e ≠ x := fun q => h (by rw [← q]; exact hee)
      rcases Nat.lt_trichotomy j i with l | l | l
      · by_cases j1 : j = i - 1
        · subst j1
          omega
        · have := lt j (i - 1) hj hp (by omega)
          omega
      · subst l
        exact absurd (ej.symm.trans ex) ne
      · have := lt i j hi hj l
        omega
theorem prev_at {ns : List Int} {i : Nat} {x : Int} {f : Form} (hx : ns[i]? = some x) : prev ns (i + 1) f = cross x f := by
  unfold prev
  rw [if_neg (by omega), Nat.add_sub_cancel, List.getD_eq_getElem?_getD, hx]
  rfl
end Fm

set_option Elab.async false
set_option linter.all false
set_option maxRecDepth 100000
/-! Spans and forms as data. -/
namespace Vf
open PySem PySem.Spec PyProof.Rows L2
open Fm (Spans Form Slab Keep)

def encP (p : Int × Int) : PyData := .tuple [.int p.1, .int p.2]
def encS (s : Spans) : PyData := .tuple (s.map encP)
def encL (p : Slab) : PyData := .tuple [.int p.1, .int p.2.1, encS p.2.2]
def encF (f : Form) : PyData := .tuple (f.map encL)
def encK (k : Keep) : PyData := .tuple [.bool (k false false), .bool (k false true), .bool (k true false), .bool (k true true)]

theorem dpP_wo {K : PySem.W.Frag} {H : Hp} {c : Addr} {l : List V} {v : V} {p : Int × Int} (h : Dp K H v (encP p)) (hc : H c = some (.lst l)) : Dp K (wo c H) v (encP p) := by
  cases h with
  | tup h ha =>
    cases ha with
    | cons a r =>
      cases r with
      | cons b r =>
        cases r with
        | nil =>
          cases a with
          | int i =>
            cases b with
            | int j => exact .tup (sqT_wo h hc) (.cons (.int _) (.cons (.int _) .nil))
theorem dpPs_wo {K : PySem.W.Frag} {H : Hp} {c : Addr} {l : List V} (hc : H c = some (.lst l)) : ∀ {s : Spans} {vs : List V}, DpAll K H vs (s.map encP) → DpAll K (wo c H) vs (s.map encP)
  | [], _, .nil => .nil
  | _ :: _, _, .cons a r => .cons (dpP_wo a hc) (dpPs_wo hc r)
theorem dpS_wo {K : PySem.W.Frag} {H : Hp} {c : Addr} {l : List V} {v : V} {s : Spans} (h : Dp K H v (encS s)) (hc : H c = some (.lst l)) : Dp K (wo c H) v (encS s) := by
  cases h with
  | tup h ha => exact .tup (sqT_wo h hc) (dpPs_wo hc ha)
/-- new pairs, each of a place and a number -/
def Mk (H : Hp) (bit : Int) (ts : List Addr) (es : List Int) : Prop := Paired (fun t e => H t = some (.tup [.int e, .int bit])) ts es
theorem Mk.same {H H' : Hp} {bit : Int} (s : Same H H') : ∀ {ts : List Addr} {es : List Int}, Mk H bit ts es → Mk H' bit ts es
  | _, _, .nil => .nil
  | _, _, .cons a t => .cons (s _ _ a) (Mk.same s t)
theorem Mk.upd {H : Hp} {bit : Int} {D : Addr} {l : List V} {o : HO} (h : H D = some (.lst l)) : ∀ {ts : List Addr} {es : List Int}, Mk H bit ts es → Mk (upd H D o) bit ts es
  | _, _, .nil => .nil
  | _, _, .cons a t => .cons (by rw [upd_ne (ne_of a h (by simp))]; exact a) (Mk.upd h t)
theorem Mk.snoc {H : Hp} {bit : Int} {ts : List Addr} {es : List Int} {t : Addr} {e : Int} (m : Mk H bit ts es) (h : H t = some (.tup [.int e, .int bit])) : Mk H bit (ts ++ [t]) (es ++ [e]) := Paired.snoc m h
theorem Mk.len {H : Hp} {bit : Int} {ts : List Addr} {es : List Int} (m : Mk H bit ts es) : ts.length = es.length := Paired.length m
/-- which two ints stand at a pair -/
def kOf (H : Hp) (v : V) : Int × Int := match v with
  | .ref t => match H t with
    | some (.tup [.int i, .int j]) => (i, j)
    | _ => (0, 0)
  | _ => (0, 0)
theorem kOf_at {H : Hp} {t : Addr} {i j : Int} (h : H t = some (.tup [.int i, .int j])) : kOf H (.ref t) = (i, j) := by
  unfold kOf
  simp only [h]
theorem Mk.key {H : Hp} {bit : Int} : ∀ {ts : List Addr} {es : List Int}, Mk H bit ts es → (ts.map V.ref).map (kOf H) = es.map fun e => (e, bit)
  | _, _, .nil => rfl
  | _, _, .cons a t => by
    simp only [List.map_cons]
    rw [kOf_at a, Mk.key t]
theorem Mk.each {H : Hp} {bit : Int} : ∀ {ts : List Addr} {es : List Int}, Mk H bit ts es → ∀ x ∈ ts.map V.ref, ∃ t, x = V.ref t ∧ H t = some (.tup [.int (kOf H x).1, .int (kOf H x).2])
  | _, _, .nil, x, hx => by cases hx
  | t :: ts, _, .cons a r, x, hx => by
    rw [List.map_cons] at hx
    rcases List.mem_cons.mp hx with rfl | hx
    · refine ⟨t, rfl, ?_⟩
      rw [kOf_at a]
      exact a
    · exact Mk.each r x hx
theorem ends_snoc (a : Spans) (p : Int × Int) : Fm.ends (a ++ [p]) = Fm.ends a ++ [p.1, p.2] := by
  induction a with
  | nil => rfl
  | cons q a ih => simp only [List.cons_append, Fm.ends, ih]
theorem ends_len (a : Spans) : (Fm.ends a).length = 2 * a.length := by
  induction a with
  | nil => rfl
  | cons q a ih =>
    simp only [Fm.ends, List.length_cons, ih]
    omega
/-- the same heap but for a list that grows -/
theorem same_grow {H H' : Hp} {D : Addr} {o : HO} (s : Same H H') (n : H D = none) : Same H (upd H' D o) := fun b u e => by
  rw [upd_ne (ne_of_none e n)]
  exact s b u e
/-- [(y, bit) for span in spans for y in span], the spans at slot j, span at slot m, y at slot n -/
abbrev tMarks (K : PySem.W.Frag) (j m n : Nat) (bit : Int) : TE := tLc2 (iTup K (tVar j)) (gName m) tYes (iTup K (tVar m)) (gName n) tYes (tTup (tCons (tVar n) (tCons (tC (.int bit)) tNil))) [m, n] [n]
theorem rd_marks {K : PySem.W.Frag} {s0 s1 s2 s3 s4 s5 s6 s7 s8 s9 s10 : Option V} {H : Hp} {Q : VK} {j : Nat} {bit : Int} {va : V} {a : Spans} (h0 : [s0, s1, s2, s3, s4, s5, s6, s7, s8, s9, s10][j]? = some (some va)) (hd : Dp K H va (encS a)) (sz : a.length ≤ 100000)
    (q : ∀ H' D ts, Same H H' → H' D = some (.lst (ts.map V.ref)) → Mk H' bit ts (Fm.ends a) → Q (.ref D) H') : tMarks K j 10 6 bit [s0, s1, s2, s3, s4, s5, s6, s7, s8, s9, s10] H Q := by
  obtain ⟨A, xs, rfl, hs, ha⟩ := dp_tup hd
  have len : xs.length = a.length := (dpAll_len ha).trans (List.length_map ..)
  have small : ∀ {H' : Hp} {ts : List Addr} {es : List Int}, Mk H' bit ts es → es.length ≤ 300000 → (ts.map V.ref).length < sizeLine := fun m h => by
    rw [List.length_map, m.len]
    exact Nat.lt_of_le_of_lt h (by decide)
  refine ⟨.ref A, h0, A, rfl, ⟨_, hs⟩, fun D hD => ?_⟩
  refine wk xs.length (fun i H' => Same H H' ∧ ∃ ts, H' D = some (.lst (ts.map V.ref)) ∧ Mk H' bit ts (Fm.ends (a.take i))) ⟨same_new hD, [], upd_same, .nil⟩ (fun i H1 hi p => ?_) (fun H1 p => ?_)
  · obtain ⟨S1, ts, hL, mk⟩ := p
    refine tt_go (sqT_same S1 hs) hi (fun x hx => ?_)
    obtain ⟨d, hd1, hd2⟩ := dpAll_get ha hx
    have hia : i < a.length := by omega
    have ed : d = encP a[i] := by
      rw [List.getElem?_map, List.getElem?_eq_getElem hia] at hd1
      exact (Option.some.inj hd1).symm
    subst ed
    obtain ⟨b, rfl, hb⟩ := dp_pair (dp_same S1 hd2)
    have el : (Fm.ends (a.take i)).length = 2 * i := by
      rw [ends_len, List.length_take]
      omega
    refine ⟨rfl, .ref b, rfl, b, rfl, ⟨_, hb⟩, ?_⟩
    refine wk 2 (fun k H' => But D H1 H' ∧ ∃ ts, H' D = some (.lst (ts.map V.ref)) ∧ Mk H' bit ts (Fm.ends (a.take i) ++ [a[i].1, a[i].2].take k)) ⟨But.refl, ts, hL, by simpa using mk⟩ (fun k H2 hk p => ?_) (fun H2 p => ?_)
    · obtain ⟨B2, ts, hL2, mk⟩ := p
      have hb2 : SqT K H2 b [.int a[i].1, .int a[i].2] := sqT_same wo_same (sqT_same B2.wo (sqT_wo hb hL))
      refine tt_go hb2 hk (fun x hx => ?_)
      obtain ⟨e, rfl, he⟩ : ∃ e, x = .int e ∧ [a[i].1, a[i].2].take (k + 1) = [a[i].1, a[i].2].take k ++ [e] := by
        match k, hk, hx with
        | 0, _, hx =>
          cases hx
          exact ⟨_, rfl, rfl⟩
        | 1, _, hx =>
          cases hx
          exact ⟨_, rfl, rfl⟩
      refine ⟨rfl, .int e, rfl, (by show 2 ≤ sizeLine; decide), fun p hp => ?_⟩
      have np : D ≠ p := ne_of_none hL2 hp
      have hL3 : upd H2 p (.tup [.int e, .int bit]) D = some (.lst (ts.map V.ref)) := by
        rw [upd_ne np]
        exact hL2
      refine ⟨_, hL3, small mk ?_, ?_, ts ++ [p], ?_, ?_⟩
      · rw [List.length_append, el, List.length_take]
        omega
      · exact B2.trans ((But.of (same_new hp)).trans But.at)
      · rw [upd_same, List.map_append]
        rfl
      · rw [he, ← List.append_assoc]
        refine Mk.upd hL3 (Mk.snoc (mk.same (same_new hp)) upd_same)
    · obtain ⟨B2, ts, hL2, mk⟩ := p
      have hb2 : SqT K H2 b [.int a[i].1, .int a[i].2] := sqT_same wo_same (sqT_same B2.wo (sqT_wo hb hL))
      have S2 : Same H H2 := fun c u e => B2 c u (ne_of_none e hD) (S1 c u e)
      refine ⟨tt_end (xs := [.int a[i].1, .int a[i].2]) hb2, S2, ts, hL2, ?_⟩
      rw [List.take_add_one, List.getElem?_eq_getElem hia]
      show Mk H2 bit ts (Fm.ends (a.take i ++ [a[i]]))
      rw [ends_snoc]
      exact mk
  · obtain ⟨S1, ts, hL, mk⟩ := p
    rw [len, List.take_length] at mk
    exact ⟨tt_end (sqT_same S1 hs), q H1 D ts S1 hL mk⟩
end Vf

set_option Elab.async false
set_option linter.all false
set_option maxRecDepth 100000
/-! combined_spans. -/
namespace Vf
open PySem PySem.Spec PyProof.Rows L2
open C8 (pss_cut tCut)
open Fm (Spans Form Slab Keep)
theorem scComb : FnScope ["one", "other", "kept", "marks", "cuts", "state", "y", "bit", "after", "k", "span"] ["one", "other", "kept"] (defScope sComb) := ⟨rfl, rfl, rfl, by decide +kernel, rfl, by decide +kernel, by decide +kernel⟩
/-! ### the state as a number -/
def stN (s : Bool × Bool) : Int := (if s.1 then 2 else 0) + (if s.2 then 1 else 0)
def bitN (w : Bool) : Int := if w then 2 else 1
theorem stN_flip (s : Bool × Bool) (w : Bool) : Builtin.bitXor (stN s) (bitN w) = stN (Fm.flip s w) := by
  obtain ⟨a, b⟩ := s
  cases a <;> cases b <;> cases w <;> decide +kernel
/-- what is kept of two lists of spans -/
def combS (k : Keep) (a b : Spans) : Spans :=
  Fm.pairUp (Fm.sweep k ((Fm.marks a b).mergeSort fun p q => decide (p.1 ≤ q.1))).1
theorem combS_spec {k : Keep} {a b : Spans} (ha : Fm.Ok a) (hb : Fm.Ok b) (hk : k false false = false) : Fm.Ok (combS k a b) ∧ ∀ z, Fm.inS z (combS k a b) = k (Fm.inS z a) (Fm.inS z b) := by
  have h := Fm.sweep_spec (ms := (Fm.marks a b).mergeSort fun p q => decide (p.1 ≤ q.1)) ha hb hk (List.mergeSort_perm _ _) (by
    have := List.pairwise_mergeSort (le := fun (p q : Fm.Mark) => decide (p.1 ≤ q.1)) (fun a b c h1 h2 => by
      simp only [decide_eq_true_eq] at *
      omega) (fun a b => by
      simp only [Bool.or_eq_true, decide_eq_true_eq]
      omega) (Fm.marks a b)
    exact this.imp fun h => of_decide_eq_true h)
  exact ⟨h.1, h.2.2⟩
theorem combS_eq {k : Keep} {a b : Spans} {ms : List Fm.Mark} (ha : Fm.Ok a) (hb : Fm.Ok b) (hk : k false false = false) (p : ms.Perm (Fm.marks a b)) (asc : Fm.Asc ms) : Fm.pairUp (Fm.sweep k ms).1 = combS k a b := by
  have h1 := Fm.sweep_spec ha hb hk p asc
  have h2 := combS_spec ha hb hk
  exact Fm.spans_eq h1.1 h2.1 fun z => (h1.2.2 z).trans (h2.2 z).symm
theorem pairUp_len : ∀ l : List Int, (Fm.pairUp l).length ≤ l.length / 2
  | [] => Nat.le_refl _
  | [_] => Nat.zero_le _
  | a :: b :: r => by
    have := pairUp_len r
    simp only [Fm.pairUp, List.length_cons]
    omega
theorem combS_len (k : Keep) (a b : Spans) : (combS k a b).length ≤ a.length + b.length := by
  have h1 := pairUp_len (Fm.sweep k ((Fm.marks a b).mergeSort fun p q => decide (p.1 ≤ q.1))).1
  have h2 := Fm.sweep_len_from (k := k) ((Fm.marks a b).mergeSort fun p q => decide (p.1 ≤ q.1)) ([], false, false)
  rw [List.length_mergeSort] at h2
  have h3 : (Fm.marks a b).length = 2 * a.length + 2 * b.length := by
    unfold Fm.marks
    rw [List.length_append, List.length_map, List.length_map, ends_len, ends_len]
  unfold combS
  have h4 : (Fm.sweep k ((Fm.marks a b).mergeSort fun p q => decide (p.1 ≤ q.1))).1.length ≤ 2 * a.length + 2 * b.length := by
    unfold Fm.sweep
    simp only [List.length_nil] at h2
    omega
  omega
/-- the mark that a pair is -/
def mkOf (H : Hp) (v : V) : Fm.Mark := ((kOf H v).1, decide ((kOf H v).2 = 2))
theorem marks_of {H : Hp} {t1 t2 : List Addr} {a b : Spans} {ys : List V} (m1 : Mk H 2 t1 (Fm.ends a)) (m2 : Mk H 1 t2 (Fm.ends b)) (p : ys.Perm (t1.map V.ref ++ t2.map V.ref)) : (ys.map (mkOf H)).Perm (Fm.marks a b) := by
  have h1 : (t1.map V.ref).map (mkOf H) = (Fm.ends a).map fun y => (y, true) := by
    have e : (t1.map V.ref).map (mkOf H) = ((t1.map V.ref).map (kOf H)).map fun q => (q.1, decide (q.2 = 2)) := (List.map_map (g := fun q : Int × Int => (q.1, decide (q.2 = 2))) (f := kOf H) (l := t1.map V.ref)).symm
    rw [e, m1.key, List.map_map]
    rfl
  have h2 : (t2.map V.ref).map (mkOf H) = (Fm.ends b).map fun y => (y, false) := by
    have e : (t2.map V.ref).map (mkOf H) = ((t2.map V.ref).map (kOf H)).map fun q => (q.1, decide (q.2 = 2)) := (List.map_map (g := fun q : Int × Int => (q.1, decide (q.2 = 2))) (f := kOf H) (l := t2.map V.ref)).symm
    rw [e, m2.key, List.map_map]
    rfl
  have := p.map (mkOf H)
  rw [List.map_append, h1, h2] at this
  exact this
theorem asc_of {H : Hp} {ys : List V} (s : SrtO.Srtd (ltP (kOf H)) ys) : Fm.Asc (ys.map (mkOf H)) := List.pairwise_map.mpr (s.imp fun {x y} h => by
  have := SrtO.lexB_no.mp h
  show (kOf H x).1 ≤ (kOf H y).1
  omega)
/-- the numbers at a pair -/
theorem Mk.bits {H : Hp} {bit : Int} : ∀ {ts : List Addr} {es : List Int}, Mk H bit ts es → ∀ x ∈ ts.map V.ref, (kOf H x).2 = bit
  | _, _, .nil, x, hx => by cases hx
  | t :: ts, _, .cons a r, x, hx => by
    rw [List.map_cons] at hx
    rcases List.mem_cons.mp hx with rfl | hx
    · rw [kOf_at a]
    · exact Mk.bits r x hx
theorem pairUp_get : ∀ {l : List Int} {i : Nat} (h : 2 * i + 1 < l.length), (Fm.pairUp l)[i]? = some (l[2 * i]'(by omega), l[2 * i + 1])
  | [], i, h => by simp at h
  | [_], i, h => by
    simp only [List.length_cons, List.length_nil] at h
    omega
  | a :: b :: r, 0, _ => rfl
  | a :: b :: r, i + 1, h => by
    simp only [List.length_cons] at h
    have ih := pairUp_get (l := r) (i := i) (by omega)
    simp only [Fm.pairUp, List.getElem?_cons_succ]
    rw [ih]
    congr 1
theorem dpAll_pairs {K : PySem.W.Frag} {H : Hp} : ∀ {ts : List Addr} {s : Spans}, Paired (fun t (p : Int × Int) => H t = some (.tup [.int p.1, .int p.2])) ts s → DpAll K H (ts.map V.ref) (s.map encP)
  | _, _, .nil => .nil
  | _, _, .cons a t => .cons (.tup (.inl (.inl a)) (.cons (.int _) (.cons (.int _) .nil))) (dpAll_pairs t)
section
variable {P : Program} {w : World} {K : PySem.W.Frag} {mg : Str → Option Value} {base : Heap}
/-- what is kept, at a state -/
theorem kept_at {k : Keep} (s : Bool × Bool) : atI [V.bl (k false false), .bl (k false true), .bl (k true false), .bl (k true true)] (stN s) = some (.bl (k s.1 s.2)) := by
  obtain ⟨a, b⟩ := s
  cases a <;> cases b
  · exact atI_nat (j := 0) rfl
  · exact atI_nat (j := 1) rfl
  · exact atI_nat (j := 2) rfl
  · exact atI_nat (j := 3) rfl
theorem dp_keep {H : Hp} {v : V} {k : Keep} (h : Dp K H v (encK k)) : ∃ a, v = .ref a ∧ SqT K H a [V.bl (k false false), .bl (k false true), .bl (k true false), .bl (k true true)] := by
  obtain ⟨a, xs, rfl, hs, ha⟩ := dp_tup h
  obtain ⟨x, y, z, u, rfl, h1, h2, h3, h4⟩ := dpAll_four ha
  obtain rfl := dp_bool h1
  obtain rfl := dp_bool h2
  obtain rfl := dp_bool h3
  obtain rfl := dp_bool h4
  exact ⟨a, rfl, hs⟩
def spComb (K : PySem.W.Frag) : Sp := fun vs H Q _ => ∃ va vb vk a b k, vs = [va, vb, vk] ∧ Dp K H va (encS a) ∧ Dp K H vb (encS b) ∧ Dp K H vk (encK k) ∧ Fm.Ok a ∧ Fm.Ok b ∧ k false false = false ∧ a.length ≤ 50000 ∧ b.length ≤ 50000 ∧
  ∀ H' v, Same H H' → Dp K H' v (encS (combS k a b)) → Q v H'
theorem ok_comb {f : Addr} {fd : FuncData} {n : Nat} (F : Fun K "combined_spans" "combined_spans" sComb f fd) (ms : mg "sorted" = none) (mt : mg "tuple" = none) (mr : mg "range" = none) (ml : mg "len" = none) : FnOk P w K mg base CX0 (n + 1) f fd ["one", "other", "kept"] (spComb K) := by
  have nd := scComb.nd
  refine F.ok scComb (fun vs H Q E h => ?_) (fun cdv A outer st H vs Q E hr h => ?_)
  · obtain ⟨va, vb, vk, a, b, k, rfl, _⟩ := h
    rfl
  · obtain ⟨va, vb, vk, a, b, k, rfl, hA, hB, hK, oa, ob, k0, za, zb, q⟩ := h
    refine ⟨_, (pss_cut (ps_set (i := 3) nd rfl (Or.inl rfl) (pe_callB cr_sortedPO (by rfl) ms (by decide +kernel) (pa_cons (pe_op op_cat (pe_lc2 (own := [("span", 10), ("y", 6)]) (vs1 := [6]) (g := gName 10) (g1 := gName 6) (tt := tYes) (tt1 := tYes) (wi1 := iTup K (tVar 10)) rfl nd (pi_tup (pv 0)) (blkOk_by (N := ["one", "other", "kept", "marks", "cuts", "state", "y", "bit", "after", "k", "span"]) (sc := defScope sComb) (by decide +kernel)) (by decide) (fun _ _ _ _ _ => (pg_name (i := 10) nd rfl (Or.inl rfl))) (fun _ _ _ _ _ => pts_nil) (fun _ _ _ _ _ => (pi_tup (pv 10))) (fun _ _ _ _ _ => (pg_name (i := 6) nd rfl (Or.inl rfl))) (fun _ _ _ _ _ => pts_nil) (fun _ _ _ _ _ => (pe_tup (pa_cons (pv 6) (pa_cons pe_int pa_nil))))) (pe_lc2 (own := [("span", 10), ("y", 6)]) (vs1 := [6]) (g := gName 10) (g1 := gName 6) (tt := tYes) (tt1 := tYes) (wi1 := iTup K (tVar 10)) rfl nd (pi_tup (pv 1)) (blkOk_by (N := ["one", "other", "kept", "marks", "cuts", "state", "y", "bit", "after", "k", "span"]) (sc := defScope sComb) (by decide +kernel)) (by decide) (fun _ _ _ _ _ => (pg_name (i := 10) nd rfl (Or.inl rfl))) (fun _ _ _ _ _ => pts_nil) (fun _ _ _ _ _ => (pi_tup (pv 10))) (fun _ _ _ _ _ => (pg_name (i := 6) nd rfl (Or.inl rfl))) (fun _ _ _ _ _ => pts_nil) (fun _ _ _ _ _ => (pe_tup (pa_cons (pv 6) (pa_cons pe_int pa_nil)))))) pa_nil)))
  (pss_cons (ps_set (i := 4) nd rfl (Or.inr rfl) (pe_lst pa_nil))
  (pss_cons (ps_set (i := 5) nd rfl (Or.inl rfl) pe_int)
  (pss_cut (ps_for PassesOwn.never rfl (pi_list (pv 3)) (pg_tup (by rfl) (pgs_cons (pg_name (i := 6) nd rfl (Or.inl rfl)) (pgs_cons (pg_name (i := 7) nd rfl (Or.inl rfl)) pgs_nil)))
  (pss_cons (ps_set (i := 8) nd rfl (Or.inl rfl) (pe_op op_xor (pv 5) (pv 7)))
  (pss_cut (ps_if (pt_cmpR op_ne (pe_ix ix_tup (pv 2) (pv 8) (fun _ _ => rfl)) (pe_ix ix_tup (pv 2) (pv 5) (fun _ _ => rfl)) (nomark _))
  (pss_one (ps_if (PW.pt (pw_and (pt_truth (pv 4) (by intro _; rfl)) (pw_and1 (pt_cmpR op_eq (pe_ix ix_list (pv 4) (pe_un un_neg pe_int) (fun _ _ => rfl)) (pv 6) (nomark _)))))
  (pss_one (ps_expr (pe_bm0 PySem.F.plainAttrs_list PySem.F.slot_list_pop PySem.F.type_list_pop mt_pop (pv 4))))
  (pss_one (ps_expr (pe_bm PySem.F.plainAttrs_list PySem.F.slot_list_append PySem.F.type_list_append mt_append (pv 4) (pa_cons (pv 6) pa_nil))))))
  pss_nil)
  (pss_one (ps_set (i := 5) nd rfl (Or.inl rfl) (pv 8))))))
  (pss_one (ps_ret (pe_callTy call_tuple_of (by rfl) mt (by decide +kernel) (pa_cons (pe_lc (own := [("k", 9)]) (g := gName 9) (tt := tYes) rfl nd (pi_range3 (by rfl) mr (pa_cons pe_int (pa_cons (pe_callB call_len_seq (by rfl) ml PySem.boot_len (pa_cons (pv 4) pa_nil)) (pa_cons pe_int pa_nil)))) (blkOk_by (N := ["one", "other", "kept", "marks", "cuts", "state", "y", "bit", "after", "k", "span"]) (sc := defScope sComb) (by decide +kernel)) (fun _ _ _ _ _ => (pg_name (i := 9) nd rfl (Or.inl rfl))) (fun _ _ _ _ _ => pts_nil) (fun _ _ _ _ _ => (pe_tup (pa_cons (pe_ix (r := rIxL K) ix_list (pv 4) (pv 9) (fun _ _ => rfl)) (pa_cons (pe_ix (r := rIxL K) ix_list (pv 4) (pe_op op_add (pv 9) pe_int) (fun _ _ => rfl)) pa_nil))))) pa_nil)))))))), ?_⟩
    obtain ⟨kA, rfl, hk⟩ := dp_keep hK
    refine ⟨fun σ' H' => Same H H' ∧ ∃ (qm : Addr) (ys : List V) (G : Hp), σ' = [some va, some vb, some (.ref kA), some (.ref qm), none, none, none, none, none, none, none] ∧ H' qm = some (.lst ys) ∧ Same G H' ∧ (ys.map (mkOf G)).Perm (Fm.marks a b) ∧ Fm.Asc (ys.map (mkOf G)) ∧ ∀ v ∈ ys, ∃ t, v = .ref t ∧ G t = some (.tup [.int (mkOf G v).1, .int (bitN (mkOf G v).2)]), ?_, ?_⟩
    · rw [tAsg_eq, tCB_eq, tCons_eq, tOp_eq]
      refine rd_marks (j := 0) rfl hA (by omega) fun H1 D1 t1 S1 L1 M1 => ?_
      refine rd_marks (j := 1) rfl (dp_same S1 hB) (by omega) fun H2 D2 t2 S2 L2 M2 => ?_
      have l1 : (t1.map V.ref).length = 2 * a.length := by rw [List.length_map, M1.len, ends_len]
      have l2 : (t2.map V.ref).length = 2 * b.length := by rw [List.length_map, M2.len, ends_len]
      refine ⟨D1, D2, _, _, rfl, rfl, S2 _ _ L1, L2, ?_, fun D3 h3 => ?_⟩
      · rw [l1, l2]
        exact Nat.le_trans (show 2 * a.length + 2 * b.length ≤ 200000 by omega) (by decide)
      have S3 : Same H2 (upd H2 D3 (.lst (t1.map V.ref ++ t2.map V.ref))) := same_new h3
      have L3 : SqL K (upd H2 D3 (.lst (t1.map V.ref ++ t2.map V.ref))) D3 (t1.map V.ref ++ t2.map V.ref) := sqL_new
      have N1 := (M1.same S2).same S3
      have N2 := M2.same S3
      generalize upd H2 D3 (.lst (t1.map V.ref ++ t2.map V.ref)) = G at S3 L3 N1 N2
      have each : ∀ x ∈ t1.map V.ref ++ t2.map V.ref, ∃ t, x = V.ref t ∧ G t = some (.tup [.int (kOf G x).1, .int (kOf G x).2]) := fun x hx => by
        rcases List.mem_append.mp hx with hx | hx
        · exact N1.each x hx
        · exact N2.each x hx
      have two : ∀ x ∈ t1.map V.ref ++ t2.map V.ref, (kOf G x).2 = bitN (mkOf G x).2 := fun x hx => by
        rcases List.mem_append.mp hx with hx | hx
        · have e := N1.bits x hx
          show _ = bitN (decide ((kOf G x).2 = 2))
          rw [e]
          rfl
        · have e := N2.bits x hx
          show _ = bitN (decide ((kOf G x).2 = 2))
          rw [e]
          rfl
      refine ⟨D3, _, kOf G, rfl, L3, each, fun ys qm srt stb hq => ?_⟩
      have S4 : Same G (upd G qm (.lst ys)) := same_new hq
      refine ⟨((S1.trans S2).trans S3).trans S4, qm, ys, G, rfl, upd_same, S4, marks_of N1 N2 stb.perm, asc_of srt, fun v hv => ?_⟩
      have hx := stb.perm.mem_iff.mp hv
      obtain ⟨t, e1, e2⟩ := each v hx
      rw [two v hx] at e2
      exact ⟨t, e1, e2⟩
    · rintro σ4 H4 ⟨S4, qm, ys, G, rfl, hqm, SG, perm, asc, each⟩
      refine ⟨Nat.zero_le _, fun c hc => ?_⟩
      have nqc : qm ≠ c := ne_of_none hqm hc
      have S5 : Same H4 (upd H4 c (.lst [])) := same_new hc
      have L5 : upd H4 c (.lst []) c = some (.lst []) := upd_same
      generalize upd H4 c (.lst []) = H5 at S5 L5
      have big : ys.length ≤ 200000 := by
        have := perm.length_eq
        rw [List.length_map] at this
        unfold Fm.marks at this
        rw [List.length_append, List.length_map, List.length_map, ends_len, ends_len] at this
        omega
      refine ⟨fun σ' H' => Same H H' ∧ ∃ (cuts : List Int) (s : Bool × Bool) (o5 o6 o7 o8 : Option V), σ' = [some va, some vb, some (.ref kA), some (.ref qm), some (.ref c), o5, o6, o7, o8, none, none] ∧ H' c = some (.lst (cuts.map V.int)) ∧ (cuts, s) = Fm.sweep k (ys.map (mkOf G)), ?_, ?_⟩
      · have lq : ∀ {H'}, But c H5 H' → SqL K H' qm ys := fun {H'} B => .inl (.inl (B qm _ nqc (S5 _ _ hqm)))
        refine ⟨.ref qm, rfl, qm, rfl, ⟨_, lq But.refl⟩, wkS ys.length (fun i σ H' => But c H5 H' ∧ ∃ (cuts : List Int) (s : Bool × Bool) (o6 o7 o8 : Option V), σ = [some va, some vb, some (.ref kA), some (.ref qm), some (.ref c), some (.int (stN s)), o6, o7, o8, none, none] ∧ H' c = some (.lst (cuts.map V.int)) ∧ cuts.length ≤ i ∧ (cuts, s) = ((ys.map (mkOf G)).take i).foldl (Fm.turn k) ([], false, false)) ⟨But.refl, [], (false, false), none, none, none, rfl, L5, Nat.le_refl _, rfl⟩ (fun i σ H6 hi p => ?_) (fun σ H6 p => ?_)⟩
        · obtain ⟨B6, cuts, s, o6, o7, o8, rfl, hc6, len, eq⟩ := p
          refine tl_go (lq B6) hi (fun v hv => ?_)
          obtain ⟨t, rfl, ht⟩ := each v (List.mem_of_getElem? hv)
          have h4t := SG _ _ ht
          have ht6 : H6 t = some (.tup [.int (mkOf G (.ref t)).1, .int (bitN (mkOf G (.ref t)).2)]) := B6 t _ (ne_of_none h4t hc) (S5 _ _ h4t)
          have next : ((ys.map (mkOf G)).take (i + 1)).foldl (Fm.turn k) ([], false, false) = Fm.turn k (cuts, s) (mkOf G (.ref t)) := by
            rw [List.take_add_one, List.getElem?_map, hv, eq, List.foldl_append]
            rfl
          generalize mkOf G (.ref t) = m at ht6 next
          refine ⟨t, _, rfl, .inl (.inl ht6), rfl, .int m.1, [.int (bitN m.2)], rfl, .int (bitN m.2), [], rfl, rfl, ?_⟩
          refine ⟨.int (stN s), rfl, .int (bitN m.2), rfl, stN s, bitN m.2, rfl, rfl, ?_⟩
          have kS : ∀ {H'}, But c H5 H' → SqT K H' kA [V.bl (k false false), .bl (k false true), .bl (k true false), .bl (k true true)] := fun {H'} B => sqT_same wo_same (sqT_same B.wo (sqT_wo (sqT_same (S4.trans S5) hk) L5))
          refine ⟨fun σ' H' => But c H5 H' ∧ H' c = some (.lst ((Fm.turn k (cuts, s) m).1.map V.int)) ∧ σ' = [some va, some vb, some (.ref kA), some (.ref qm), some (.ref c), some (.int (stN s)), some (.int m.1), some (.int (bitN m.2)), some (.int (stN (Fm.flip s m.2))), none, none], ?_, ?_⟩
          · have e := stN_flip s m.2
            refine ⟨.ref kA, rfl, .int (Builtin.bitXor (stN s) (bitN m.2)), rfl, kA, _, _, .bl (k (Fm.flip s m.2).1 (Fm.flip s m.2).2), rfl, rfl, kS B6, (by rw [e]; exact kept_at _), ?_⟩
            refine ⟨.ref kA, rfl, .int (stN s), rfl, kA, _, _, .bl (k s.1 s.2), rfl, rfl, kS B6, kept_at _, rfl, _, rfl, ?_⟩
            have lst : SqL K H6 c (cuts.map V.int) := .inl (.inl hc6)
            have last : [some va, some vb, some (.ref kA), some (.ref qm), some (.ref c), some (.int (stN s)), some (.int m.1), some (.int (bitN m.2)), some (.int (Builtin.bitXor (stN s) (bitN m.2))), none, none] = [some va, some vb, some (.ref kA), some (.ref qm), some (.ref c), some (.int (stN s)), some (.int m.1), some (.int (bitN m.2)), some (.int (stN (Fm.flip s m.2))), none, none] := by rw [e]
            by_cases ne : k (Fm.flip s m.2).1 (Fm.flip s m.2).2 = k s.1 s.2
            · rw [show decide (V.bl (k (Fm.flip s m.2).1 (Fm.flip s m.2).2) = V.bl (k s.1 s.2)) = true from decide_eq_true (congrArg V.bl ne)]
              refine iteF ⟨B6, ?_, last⟩
              unfold Fm.turn
              dsimp only
              rw [if_neg (fun z => z ne)]
              exact hc6
            · rw [show decide (V.bl (k (Fm.flip s m.2).1 (Fm.flip s m.2).2) = V.bl (k s.1 s.2)) = false from decide_eq_false (fun z => ne (V.bl.inj z))]
              have tu : (Fm.turn k (cuts, s) m).1 = Fm.put m.1 cuts := by
                unfold Fm.turn
                dsimp only
                rw [if_pos ne]
              rw [tu]
              have grow : cuts.getLast? ≠ some m.1 → But c H5 (upd H6 c (.lst (cuts.map V.int ++ [.int m.1]))) ∧ upd H6 c (.lst (cuts.map V.int ++ [.int m.1])) c = some (.lst ((Fm.put m.1 cuts).map V.int)) := fun z => by
                refine ⟨B6.trans But.at, ?_⟩
                unfold Fm.put
                rw [if_neg z, upd_same, List.map_append]
                rfl
              have fits : (cuts.map V.int).length < sizeLine := by
                rw [List.length_map]
                exact Nat.lt_of_le_of_lt (show cuts.length ≤ 200000 by omega) (by decide)
              refine iteT ⟨.ref c, rfl, _, .inl ⟨_, lst, rfl⟩, ?_⟩
              rcases nil_or_snoc cuts with rfl | ⟨l, z, rfl⟩
              · obtain ⟨g1, g2⟩ := grow (by simp)
                exact iteF (iteF ⟨.ref c, rfl, .inl ⟨rfl, _, lst⟩, .int m.1, rfl, c, _, _, rfl, rfl, hc6, fits, g1, g2, last⟩)
              · rw [show (!((l ++ [z]).map V.int).isEmpty) = true by simp]
                have gl : atI ((l ++ [z]).map V.int) (-1) = some (.int z) := by
                  rw [List.map_append]
                  exact atI_last _ _
                refine iteT ⟨.ref c, rfl, 1, rfl, c, _, (-1 : Int), _, rfl, rfl, lst, gl, .int m.1, rfl, rfl, _, rfl, ite2 (fun ez => ?_) (fun ez => ?_)⟩
                · have hz : z = m.1 := V.int.inj (of_decide_eq_true ez)
                  refine ⟨.ref c, rfl, .inl ⟨rfl, _, lst⟩, c, _, .int z, rfl, rfl, hc6, ?_, ?_⟩
                  · rw [List.map_append, List.length_append]
                    simp
                  · refine ⟨B6.trans But.at, ?_, last⟩
                    unfold Fm.put
                    rw [if_pos (by rw [hz]; simp), upd_same]
                    simp
                · obtain ⟨g1, g2⟩ := grow (by
                    rw [List.getLast?_append]
                    intro y
                    exact ez (decide_eq_true (congrArg V.int (Option.some.inj (by simpa using y)))))
                  exact ⟨.ref c, rfl, .inl ⟨rfl, _, lst⟩, .int m.1, rfl, c, _, _, rfl, rfl, hc6, fits, g1, g2, last⟩
          · rintro σ7 H7 ⟨B7, h7, rfl⟩
            refine ⟨.int (stN (Fm.flip s m.2)), rfl, B7, (Fm.turn k (cuts, s) m).1, Fm.flip s m.2, _, _, _, rfl, h7, ?_, next.symm⟩
            have : (Fm.turn k (cuts, s) m).1.length ≤ cuts.length + 1 := by
              unfold Fm.turn
              dsimp only
              split
              · exact Fm.put_len _ _
              · omega
            omega
        · obtain ⟨B6, cuts, s, o6, o7, o8, rfl, hc6, len, eq⟩ := p
          refine ⟨tl_end (lq B6), ?_, cuts, s, _, _, _, _, rfl, hc6, ?_⟩
          · exact fun b u e => B6 b u (ne_of_none (S4 _ _ e) hc) ((S4.trans S5) b u e)
          · rw [eq, List.take_of_length_le (by rw [List.length_map]; exact Nat.le_refl _)]
            rfl
      · rintro σ7 H7 ⟨S7, cuts, s, o5, o6, o7, o8, rfl, hc7, eq⟩
        have spec := Fm.sweep_spec (k := k) oa ob k0 perm asc
        have same := combS_eq (k := k) oa ob k0 perm asc
        rw [← eq] at spec same
        dsimp only at spec same
        obtain ⟨_, even, _⟩ := spec
        obtain ⟨m, hm⟩ : ∃ m, cuts.length = 2 * m := ⟨cuts.length / 2, by omega⟩
        have clen : cuts.length ≤ 200000 := by
          have h1 := Fm.sweep_len_from (k := k) (ys.map (mkOf G)) ([], false, false)
          unfold Fm.sweep at eq
          rw [← eq, List.length_map] at h1
          simp only [List.length_nil] at h1
          omega
        have ln : (cuts.map V.int).length = cuts.length := List.length_map ..
        have rg : RgC 0 ((cuts.map V.int).length : Int) 2 m := by
          rw [ln]
          exact rgc_two hm (by omega)
        refine ⟨.ref c, rfl, c, _, rfl, .inl (.inl (.inl hc7)), 0, _, 2, m, rfl, rg, fun D hD => ?_⟩
        have ncD : c ≠ D := ne_of_none hc7 hD
        refine wk m (fun i H' => But D H7 H' ∧ ∃ ts : List Addr, H' D = some (.lst (ts.map V.ref)) ∧ Paired (fun t p => H' t = some (.tup [.int p.1, .int p.2])) ts ((Fm.pairUp cuts).take i)) ⟨But.of (same_new hD), [], upd_same, .nil⟩ (fun i H8 hi p => ?_) (fun H8 p => ?_)
        · obtain ⟨B8, ts, hL, pr⟩ := p
          have hc8 : H8 c = some (.lst (cuts.map V.int)) := B8 c _ ncD hc7
          refine tc_go hi ?_
          have i1 : 2 * i < cuts.length := by omega
          have i2 : 2 * i + 1 < cuts.length := by omega
          have g1 : (cuts.map V.int)[2 * i]? = some (.int cuts[2 * i]) := by rw [List.getElem?_map, List.getElem?_eq_getElem i1]; rfl
          have g2 : (cuts.map V.int)[2 * i + 1]? = some (.int cuts[2 * i + 1]) := by rw [List.getElem?_map, List.getElem?_eq_getElem i2]; rfl
          have e1 : (0 : Int) + ((i : Nat) : Int) * 2 = ((2 * i : Nat) : Int) := by omega
          have e2 : (0 : Int) + ((i : Nat) : Int) * 2 + 1 = ((2 * i + 1 : Nat) : Int) := by omega
          refine ⟨rfl, .ref c, rfl, .int (0 + ((i : Nat) : Int) * 2), rfl, c, _, _, _, rfl, rfl, .inl (.inl hc8), (by rw [e1]; exact atI_nat g1), ?_⟩
          refine ⟨.ref c, rfl, .int (0 + ((i : Nat) : Int) * 2), rfl, _, _, rfl, rfl, c, _, _, _, rfl, rfl, .inl (.inl hc8), (by rw [e2]; exact atI_nat g2), (by show 2 ≤ sizeLine; decide), fun p hp => ?_⟩
          have np : D ≠ p := ne_of_none hL hp
          have hL3 : upd H8 p (.tup [.int cuts[2 * i], .int cuts[2 * i + 1]]) D = some (.lst (ts.map V.ref)) := by
            rw [upd_ne np]
            exact hL
          have pl : ts.length ≤ 200000 := by
            have := Paired.length pr
            rw [List.length_take] at this
            omega
          refine ⟨_, hL3, ?_, B8.trans ((But.of (same_new hp)).trans But.at), ts ++ [p], ?_, ?_⟩
          · rw [List.length_map]
            exact Nat.lt_of_le_of_lt pl (by decide)
          · rw [upd_same, List.map_append]
            rfl
          · have e3 : (Fm.pairUp cuts).take (i + 1) = (Fm.pairUp cuts).take i ++ [(cuts[2 * i], cuts[2 * i + 1])] := by
              rw [List.take_add_one, pairUp_get i2]
              rfl
            rw [e3]
            refine Paired.snoc (Paired.mapP pr fun t q h => ?_) ?_
            · rw [upd_ne (ne_of (by rw [upd_ne (ne_of_none h hp)]; exact h) hL3 (by simp)), upd_ne (ne_of_none h hp)]
              exact h
            · rw [upd_ne np.symm, upd_same]
        · obtain ⟨B8, ts, hL, pr⟩ := p
          refine ⟨tc_end, D, ts.map V.ref, rfl, .inl ⟨.inl (.inl hL), fun l hl => ?_⟩⟩
          have pall : (Fm.pairUp cuts).take m = combS k a b := by
            rw [← same]
            refine List.take_of_length_le ?_
            have := pairUp_len cuts
            omega
          rw [pall] at pr
          have S8 : Same H H8 := fun b u e => B8 b u (ne_of_none (S7 _ _ e) hD) (S7 _ _ e)
          refine q _ (.ref l) (S8.trans (same_new hl)) ?_
          refine .tup sqT_new (dpAll_pairs (Paired.mapP pr fun t q h => ?_))
          exact same_new hl _ _ h
end
end Vf

set_option Elab.async false
set_option linter.all false
set_option maxRecDepth 100000
/-! set(xs) of a list of whole numbers, as a set that can be walked and sorted. -/
namespace Vf
open PySem PySem.Spec PyProof.Rows L2
section
variable {P : Program} {w : World} {A : Around} {E : Value → Shared → Prop} {s : Shared}
/-- the object of a set that was just made -/
abbrev freshSet (w : World) : Obj := { cls := .type "set", dict := none, data := .set #[] 0 (.fresh 0 0 (!w.params.followText "set-order")) }
/-- filling such a set from a list: what set.__init__ does -/
theorem init_list {l S : Addr} {items : Array Value} {ns : List Int} {R : Value → Shared → Prop} (free : A.handled = none) (isl : s.heap.IsList l items) (whole : IntsAre items.toList ns) (room : ns.length + 1 < scanBound)
    (isS : s.heap.get? S = some (freshSet w)) (apart : l ≠ S)
    (fin : ∀ (h' : Heap) (tk c : Nat), SetR w h' S (fun j => decide (j ∈ ns)) c → c ≤ ns.length → (∀ b o, b ≠ S → s.heap.get? b = some o → h'.get? b = some o) → R .none { s with heap := h', toks := tk }) :
    codeAny (model P w) A (.call (.builtin "set.__init__") ⟨[.ref S, .ref l], []⟩) (wants R E) s := by
  have cnt : items.size = ns.length := by
    have q := IntsAre.length whole
    rwa [Array.length_toList] at q
  have isT : Shared.TypeIs s (.ref S) "set" := ⟨_, isS, rfl⟩
  refine codeAny_call_builtin F.called_set.init.plain F.entry_set_init (check_set_init_1 isT ?_)
  obtain ⟨ol, hol, hcl, nl, hdl⟩ := isl
  obtain ⟨kc, kd, kdat, ksl⟩ := ol
  simp only at hcl hdl
  subst hcl
  subst hdl
  have u1 := F.sub_list_set
  have u2 := F.sub_list_frozenset
  have u3 : (Value.type "list" == Value.type "dict") = false := by decide
  have isl : s.heap.IsList l items := ⟨_, hol, rfl, nl, rfl⟩
  unfold Builtin.«set.__init__» noKeywords Builtin.Frozenset.updateFrom
  generalize hPI : pyIter = PI
  wp_walk
  subst hPI
  refine wpAny_pyIter_list isl ?_
  refine wpAny_bind (wpAny_runValue ?_)
  have ll : l < s.heap.objs.size := Heap.lt_size hol
  have lS : S < s.heap.objs.size := Heap.lt_size isS
  have f3 : A.in1.in1.handled = none := free
  have at_i : ∀ (i : Nat) (v : Value), items[i]? = some v → ∃ k t, ns[i]? = some k ∧ v = .int k t := fun i v hv => by
    have hi : i < ns.length := by
      rw [← cnt]
      exact (Array.getElem?_eq_some_iff.mp hv).1
    obtain ⟨t, e⟩ := PyProof.Rows.IntsAre.int_at whole i v (by rw [Array.getElem?_toList]; exact hv)
    refine ⟨ns[i], t, List.getElem?_eq_getElem hi, ?_⟩
    rw [e, List.getD_eq_getElem?_getD, List.getElem?_eq_getElem hi]
    rfl
  have off : S ∉ [s.heap.objs.size, l] := by
    simp only [List.mem_cons, List.not_mem_nil, or_false, not_or]
    exact ⟨Nat.ne_of_lt lS, apart.symm⟩
  refine set_update_ints ((Walks.list f3 _ l (Nat.ne_of_lt ll) items).toS) S off ns cnt room at_i (items.size - 0) 0 _ (by omega) (Nat.zero_le _) ⟨⟨_, Heap.get?_push_size _ rfl, rfl, rfl⟩, (isl.push _)⟩ ?_ ?_
  · exact ⟨0, Nat.le_refl 0, setR_new_at (Heap.get?_push_of_some _ isS)⟩
  · intro s' c' hm hc' hS'
    obtain ⟨h', g2, d', tk', os'⟩ := s'
    obtain rfl : g2 = s.gens := hm.gens
    obtain rfl : d' = s.drawn := hm.drawn
    obtain rfl : os' = s.os := hm.os
    show wpAny _ _ _ _ _ _
    refine wpAny_pure ?_
    show wpAny _ _ (ret Value.none) _ _ _
    rw [cnt] at hc'
    refine wpAny_pure (fin h' tk' c' hS' hc' fun b o n e => ?_)
    have lb := Heap.lt_size e
    refine hm.heap b o ?_ (Heap.get?_push_of_some _ e)
    simp only [List.mem_cons, List.not_mem_nil, or_false, not_or]
    exact ⟨n, Nat.ne_of_lt lb⟩
/-- set(xs) -/
theorem set_from_list {l : Addr} {items : Array Value} {ns : List Int} {Q : Value → Shared → Prop} (free : A.handled = none) (isl : s.heap.IsList l items) (whole : IntsAre items.toList ns) (room : ns.length + 1 < scanBound)
    (fin : ∀ (h' : Heap) (tk c : Nat), SetR w h' s.heap.objs.size (fun j => decide (j ∈ ns)) c → c ≤ ns.length → (∀ b o, s.heap.get? b = some o → h'.get? b = some o) → Q (.ref s.heap.objs.size) { s with heap := h', toks := tk }) :
    wpAny (model P w) A (call (.type "set") [.ref l]) Q E s := by
  obtain ⟨c, tl, hmro⟩ := F.called_set.mro
  have made := F.called_set.made
  have subs := F.called_set.sub
  refine wpAny_call (codeAny_of_tree ?_)
  show wpAny _ _ (callAny (.type "set") _) _ _ _
  refine wpAny_pure ⟨Code.quiet_builtin _ (by decide +kernel), codeAny_builtin F.entry_type_call ?_⟩
  rw [Around.under_plain (weight_type_call_type "set" [.ref l] []) rfl]
  have t1 := F.called_set.notType
  have t2 := F.called_set.canCreate
  have t3 := F.typeCall_set_1 (.ref l)
  repeat (any_goals (first | assumption | wp_step))
  refine codeAny_mono (code_set_led1 (.ref l) (E := E) (Q₁ := fun ob s1 => ob = .ref s.heap.objs.size ∧ s1 = { s with heap := s.heap.push (freshSet w) }) ⟨rfl, rfl⟩) fun r s1 hr => ?_
  match r, hr with
  | .error e, hr => exact hr
  | .ok .next, hr => exact hr.elim
  | .ok .brk, hr => exact hr.elim
  | .ok .cont, hr => exact hr.elim
  | .ok (.ret ob), hr =>
    obtain ⟨rfl, rfl⟩ := hr
    have sS : (s.heap.push (freshSet w)).get? s.heap.objs.size = some (freshSet w) := Heap.get?_push_size _ rfl
    have sT : Shared.TypeIs { s with heap := s.heap.push (freshSet w) } (.ref s.heap.objs.size) "set" := ⟨_, sS, rfl⟩
    have look := F.called_set.init.lookup
    have bnd := F.called_set.init.bind (.ref s.heap.objs.size)
    repeat (any_goals (first | assumption | wp_step))
    have apart : l ≠ s.heap.objs.size := by
      obtain ⟨ol, hol, _⟩ := isl
      exact Nat.ne_of_lt (Heap.lt_size hol)
    refine codeAny_mono (init_list (E := E) (R := fun r s2 => r = .none ∧ ∃ h' tk c, s2 = { s with heap := h', toks := tk } ∧ SetR w h' s.heap.objs.size (fun j => decide (j ∈ ns)) c ∧ c ≤ ns.length ∧ (∀ b o, s.heap.get? b = some o → h'.get? b = some o)) (by simp [free]) (isl.push _) whole room sS apart ?_) fun r2 s2 hr2 => ?_
    · intro h' tk c R hc k
      refine ⟨rfl, h', tk, c, rfl, R, hc, fun b o e => k b o (Nat.ne_of_lt (Heap.lt_size e)) (Heap.get?_push_of_some _ e)⟩
    · match r2, hr2 with
      | .error e, hr2 => exact hr2
      | .ok .next, hr2 => exact hr2.elim
      | .ok .brk, hr2 => exact hr2.elim
      | .ok .cont, hr2 => exact hr2.elim
      | .ok (.ret r), hr2 =>
        obtain ⟨rfl, h', tk, c, rfl, R, hc, k⟩ := hr2
        repeat (any_goals (first | assumption | wp_step))
        exact fin _ _ _ R hc k
/-- sorted(xs) of such a set, of any size -/
theorem sorted_any {a : Addr} {S : Int → Bool} {n : Nat} {Q : Value → Shared → Prop} (R : SetR w s.heap a S n) (free : A.handled = none)
    (fin : ∀ s' p (out : Array Value) (c : Nat) (ns : List Int), (∀ b o, s.heap.get? b = some o → s'.heap.get? b = some o) → s'.gens = s.gens → s'.os = s.os → s.heap.objs.size ≤ p →
      s'.heap.get? p = some (seqObj "list" out c) → IntsAre out.toList ns → ns.Pairwise (· < ·) → (∀ k, k ∈ ns ↔ S k = true) → ns.length = n → Q (.ref p) s') :
    wpAny (model P w) A (call (.builtin "sorted") [.ref a]) Q E s := by
  obtain ⟨ob, es, ep, t, get, exact_, dat, good, nodup, mem, bound, fit, size, ris, led⟩ := R
  refine Calls.call_function_entry kind_sorted plain_sorted entry_sorted (args_sorted1 _) ?_
  unfold Builtin.«sorted»
  refine wpAny_bind (m := checkCount "sorted" 1 1 _) (wpAny_pure ?_)
  refine wpAny_bind (collect_set (A := A.in1) free ⟨ob, get, exact_.1, dat⟩ fit bound ris led ?_)
  intro s1 vs k1 zs g1 o1 pm
  have many : vs.length = n := by
    rw [pm.length_eq, List.length_map, Array.length_toList]
    exact size
  have line : vs.length ≤ sizeLine := by
    rw [many, ← size]
    exact Nat.le_trans (Nat.le_of_lt bound) (by decide)
  have whole : IntsAre vs (vs.map Builtin.Re.reRawOf) := ints_of vs fun v hv => by
    obtain ⟨e, he, q⟩ := List.mem_map.mp (pm.mem_iff.mp hv)
    obtain ⟨k, tk, h1, _⟩ := good e he
    exact ⟨k, tk, by rw [← q]; exact h1⟩
  have perm : (vs.map Builtin.Re.reRawOf).Perm (es.toList.map keyOf) := by
    have q := pm.map Builtin.Re.reRawOf
    rw [List.map_map] at q
    exact q
  refine wpAny_bind (wpAny_newList ?_ line)
  have isL : (s1.heap.push (seqObj "list" vs.toArray 0)).get? s1.heap.objs.size = some (seqObj "list" vs.toArray 0) := Heap.get?_push_size _ rfl
  refine wpAny_bind (wpAny_holding (wpAny_call_entry PyProof.Rows.slot_list_sort ⟨_, isL, rfl⟩ PyProof.Rows.entry_list_sort
    (SrtO.list_sort_ord SrtO.swo_int isL line (fun h2 => SrtO.ints_sortable whole h2) fun out h1 h2 => ⟨_, rfl, ?_⟩) (PyProof.Rows.args_list_sort _)))
  obtain ⟨c1, c2, c3⟩ := SrtO.ints_out whole h1 h2
  obtain ⟨ep2, hc⟩ := PyProof.Rows.sortedHeap_at (vs := vs) (out := out.toArray) isL
  have pn := c2.trans perm
  refine wpAny_pure ⟨_, rfl, fin _ s1.heap.objs.size out.toArray ep2 (out.map SrtO.iv) (fun b u e => ?_) g1 o1 zs hc c1 (lt_of_le_nodup _ c3 (pn.nodup_iff.mpr nodup)) (fun k => ?_) ?_⟩
  · have q := k1 b u e
    have lt := Heap.lt_size q
    show (PyProof.Rows.sortedHeap (s1.heap.push (seqObj "list" vs.toArray 0)) s1.heap.objs.size vs out.toArray).get? b = some u
    rw [PyProof.Rows.sortedHeap_old (Nat.ne_of_lt lt) (by rw [PyProof.Rows.size_push']; exact Nat.lt_succ_of_lt lt)]
    exact Heap.get?_push_of_some _ q
  · rw [pn.mem_iff, ← mem k]
  · rw [pn.length_eq, List.length_map, Array.length_toList]
    exact size
end
section
variable {X : Cx}
/-- set(xs) -/
def rSetFrom (K : PySem.W.Frag) (w : World) : List V → Hp → VK → Prop := fun xs H Q => ∃ (a : Addr) (ns : List Int), xs = [.ref a] ∧ SqL K H a (ns.map V.int) ∧ ns.length < 4000 ∧ ∀ p c, H p = none → Q (.ref p) (upd H p (SetO w p (fun j => decide (j ∈ ns)) c))
theorem cr_setL (hc : X.calm = true) : CallR X (.type "set") (rSetFrom X.K X.w) := by
  intro pins s σ H xs us Q I r h
  obtain ⟨a, ns, rfl, hs, small, q⟩ := h
  obtain ⟨its, rv, isl, hz⟩ := I.list hs
  rw [Vals.ref1 r]
  have whole := rv.ints
  refine set_from_list (I.ok.hd hc) isl.isList (by simpa using whole) (by show ns.length + 1 < 4096; omega) fun h' tk c R _ keep => ?_
  exact ⟨.ref _, _, I.laid (t' := tk) keep (Nat.le_refl _) (setO_new R), rfl, q _ c (I.hok.fresh (Nat.le_refl _))⟩
/-- sorted of such a set -/
def rSortedS (w : World) : List V → Hp → VK → Prop := fun vs H Q => ∃ (a : Addr) (S : Int → Bool) (n : Nat), vs = [V.ref a] ∧ H a = some (SetO w a S n) ∧
  ∀ (ns : List Int) (p : Addr), ns.Pairwise (· < ·) → (∀ k : Int, k ∈ ns ↔ S k = true) → H p = none → Q (.ref p) (upd H p (.lst (ns.map V.int)))
theorem cr_sortedS (hc : X.calm = true) : CallR X (.builtin "sorted") (rSortedS X.w) := by
  intro pins s σ H vs us Q I r h
  obtain ⟨a, S, n, rfl, ha, q⟩ := h
  have R := setO_get I ha
  have bound : n < scanBound := by
    obtain ⟨_, _, _, _, _, _, _, _, _, _, b, _, e, _⟩ := R
    omega
  rw [Vals.ref1 r]
  refine sorted_any R (I.ok.hd hc) fun s' p out c ns k g o hp hg hi hs hm hl => ?_
  have line : (ns.map V.int).length ≤ sizeLine := by
    rw [List.length_map, hl]
    exact Nat.le_trans (Nat.le_of_lt bound) (by decide)
  have fr : H p = none := I.hok.fresh hp
  have J : Inv X pins σ (upd H p (.lst (ns.map V.int))) { s with heap := s'.heap, gens := s'.gens, drawn := s'.drawn, toks := s'.toks } :=
    I.call (ch := []) (Un.laid k hp fr) (I.hok.laid k hp ⟨line, out.toList, c, vals_of_ints hi, hg⟩) (by rw [g]; exact I.bare) (fun _ z => nomatch z)
  have same : s' = { s with heap := s'.heap, gens := s'.gens, drawn := s'.drawn, toks := s'.toks } := by
    cases s'
    cases s
    cases o
    rfl
  rw [same]
  exact ⟨.ref p, _, J, rfl, q ns p hs hm fr⟩
end
end Vf

set_option Elab.async false
set_option linter.all false
set_option maxRecDepth 100000
/-! steps_of, form_of_steps, combined. -/
namespace Vf
open PySem PySem.Spec PyProof.Rows L2
open C8 (pss_cut tCut)
open Fm (Spans Form Slab Keep)
theorem scSteps : FnScope ["slabs", "steps", "x1", "x2", "spans"] ["slabs"] (defScope sSteps) := ⟨rfl, rfl, rfl, by decide +kernel, rfl, by decide +kernel, by decide +kernel⟩
theorem scForm : FnScope ["steps", "slabs", "x1", "spans", "x2", "_"] ["steps"] (defScope sForm) := ⟨rfl, rfl, rfl, by decide +kernel, rfl, by decide +kernel, by decide +kernel⟩
theorem scCmb : FnScope ["one", "other", "kept", "first", "second", "here", "there", "steps", "x"] ["one", "other", "kept"] (defScope sCmb) := ⟨rfl, rfl, rfl, by decide +kernel, rfl, by decide +kernel, by decide +kernel⟩
section
variable {P : Program} {w : World} {K : PySem.W.Frag} {mg : Str → Option Value} {base : Heap}
theorem val_key {kvs : List (Key × V)} {ks : List Int} (h : kvs.map (·.1) = ks.map Sum.inl) (x : Int) : x ∈ ks ↔ (valV kvs (Sum.inl x)).isSome = true := by
  rw [← valV_any, List.any_eq_true]
  constructor
  · intro hx
    have : (Sum.inl x : Key) ∈ kvs.map (·.1) := by
      rw [h]
      exact List.mem_map.mpr ⟨x, hx, rfl⟩
    obtain ⟨kv, h1, h2⟩ := List.mem_map.mp this
    exact ⟨kv, h1, decide_eq_true h2⟩
  · rintro ⟨kv, h1, h2⟩
    have : (Sum.inl x : Key) ∈ kvs.map (·.1) := List.mem_map.mpr ⟨kv, h1, of_decide_eq_true h2⟩
    rw [h] at this
    obtain ⟨y, hy, e⟩ := List.mem_map.mp this
    cases e
    exact hy
theorem put_key {kvs : List (Key × V)} {ks : List Int} (h : kvs.map (·.1) = ks.map Sum.inl) (x : Int) (v : V) : ∃ ks' : List Int, (putK kvs (Sum.inl x) v).map (·.1) = ks'.map Sum.inl ∧ ks'.length ≤ ks.length + 1 := by
  unfold putK
  split
  · refine ⟨ks, ?_, Nat.le_succ _⟩
    rw [List.map_map, ← h]
    refine List.map_congr_left fun kv _ => ?_
    show (if kv.1 = Sum.inl x then (kv.1, v) else kv).1 = kv.1
    split <;> rfl
  · refine ⟨ks ++ [x], ?_, by rw [List.length_append]; exact Nat.le_refl _⟩
    rw [List.map_append, List.map_append, h]
    rfl
/-- a dict that holds, for each place of a form, the spans that stand from there on -/
structure Steps (K : PySem.W.Frag) (H : Hp) (kvs : List (Key × V)) (n : Nat) (look : Int → Option Spans) : Prop where
  keys : ∃ ks : List Int, kvs.map (·.1) = ks.map Sum.inl ∧ ks.length ≤ n
  no : ∀ x, look x = none → valV kvs (.inl x) = none
  so : ∀ x s, look x = some s → ∃ v, valV kvs (.inl x) = some v ∧ Dp K H v (encS s)
theorem Steps.put {H H' : Hp} {kvs : List (Key × V)} {n : Nat} {look : Int → Option Spans} (h : Steps K H kvs n look) (same : Same H H') (x : Int) (s : Spans) (v : V) (d : Dp K H' v (encS s)) :
    Steps K H' (putK kvs (.inl x) v) (n + 1) (fun y => if x = y then some s else look y) := by
  obtain ⟨ks, h1, h2⟩ := h.keys
  obtain ⟨ks', h3, h4⟩ := put_key h1 x v
  refine ⟨⟨ks', h3, by omega⟩, fun y e => ?_, fun y t e => ?_⟩
  · rw [valV_put]
    by_cases z : x = y
    · simp [z] at e
    · rw [if_neg z] at e
      rw [if_neg (fun q => z (Sum.inl.inj q).symm)]
      exact h.no y e
  · rw [valV_put]
    by_cases z : x = y
    · rw [if_pos z] at e
      cases e
      rw [if_pos (by rw [z])]
      exact ⟨v, rfl, d⟩
    · rw [if_neg z] at e
      rw [if_neg (fun q => z (Sum.inl.inj q).symm)]
      obtain ⟨u, h5, h6⟩ := h.so y t e
      exact ⟨u, h5, dp_same same h6⟩
theorem Steps.congr {H : Hp} {kvs : List (Key × V)} {n m : Nat} {look look' : Int → Option Spans} (h : Steps K H kvs n look) (e : ∀ x, look' x = look x) (hn : n ≤ m) : Steps K H kvs m look' := by
  obtain ⟨ks, h1, h2⟩ := h.keys
  exact ⟨⟨ks, h1, by omega⟩, fun x q => h.no x (by rw [← e]; exact q), fun x s q => h.so x s (by rw [← e]; exact q)⟩
theorem Steps.same {H H' : Hp} {kvs : List (Key × V)} {n : Nat} {look : Int → Option Spans} (h : Steps K H kvs n look) (s : Same H H') : Steps K H' kvs n look :=
  ⟨h.keys, h.no, fun x t e => by
    obtain ⟨v, h1, h2⟩ := h.so x t e
    exact ⟨v, h1, dp_same s h2⟩⟩
theorem dp_slab {H : Hp} {v : V} {p : Slab} (h : Dp K H v (encL p)) : ∃ t u, v = .ref t ∧ SqT K H t [.int p.1, .int p.2.1, u] ∧ Dp K H u (encS p.2.2) := by
  obtain ⟨t, xs, rfl, hs, ha⟩ := dp_tup h
  obtain ⟨x, y, z, rfl, h1, h2, h3⟩ := dpAll_three ha
  obtain rfl := dp_int h1
  obtain rfl := dp_int h2
  exact ⟨t, z, rfl, hs, h3⟩
/-! ### steps_of -/
def spSteps (K : PySem.W.Frag) : Sp := fun vs H Q _ => ∃ v f, vs = [v] ∧ Dp K H v (encF f) ∧ f.length ≤ 1000 ∧ ∀ H' p kvs, Same H H' → H' p = some (.dK kvs) → Steps K H' kvs (2 * f.length) (Fm.lookF f) → Q (.ref p) H'
theorem ok_steps {f : Addr} {fd : FuncData} {n : Nat} (F : Fun K "steps_of" "steps_of" sSteps f fd) : FnOk P w K mg base CX0 (n + 1) f fd ["slabs"] (spSteps K) := by
  have nd := scSteps.nd
  refine F.ok scSteps (fun vs H Q E h => ?_) (fun cdv A outer st H vs Q E hr h => ?_)
  · obtain ⟨v, f, rfl, _⟩ := h
    rfl
  · obtain ⟨v, f, rfl, hF, sz, q⟩ := h
    have hu := hu_of hr
    refine ⟨_, (pss_cons (ps_set (i := 1) nd rfl (Or.inl rfl) pe_dnewK)
  (pss_cons (ps_for PassesOwn.never rfl (pi_tup (pv 0)) (pg_tup (by rfl) (pgs_cons (pg_name (i := 2) nd rfl (Or.inl rfl)) (pgs_cons (pg_name (i := 3) nd rfl (Or.inl rfl)) (pgs_cons (pg_name (i := 4) nd rfl (Or.inl rfl)) pgs_nil))))
  (pss_cons (ps_dput hu (pv 1) (pv 2) (pv 4) rfl)
  (pss_one (ps_dput hu (pv 1) (pv 3) (pe_tup pa_nil) rfl))))
  (pss_one (ps_ret (pv 1))))), ?_⟩
    obtain ⟨A0, xs, rfl, hs, ha⟩ := dp_tup hF
    have len : xs.length = f.length := (dpAll_len ha).trans (List.length_map ..)
    refine fun p hp => ?_
    have S1 : Same H (upd H p (.dK [])) := same_new hp
    have L1 : upd H p (.dK []) p = some (.dK []) := upd_same
    generalize upd H p (.dK []) = H1 at S1 L1
    have sq : ∀ {H'}, But p H1 H' → SqT K H' A0 xs := fun {H'} B => by
      refine sqT_same (fun b u e => B b u (ne_of_none e hp) (S1 b u e)) hs
    have sm : ∀ {H'}, But p H1 H' → Same H H' := fun {H'} B b u e => B b u (ne_of_none e hp) (S1 b u e)
    refine ⟨.ref A0, rfl, A0, rfl, ⟨_, sq But.refl⟩, wkS xs.length (fun i σ H' => But p H1 H' ∧ ∃ (kvs : List (Key × V)) (o2 o3 o4 : Option V), σ = [some (.ref A0), some (.ref p), o2, o3, o4] ∧ H' p = some (.dK kvs) ∧ Steps K (wo p H') kvs (2 * i) (Fm.lookF (f.take i))) ⟨But.refl, [], none, none, none, rfl, L1, ⟨⟨[], rfl, Nat.le_refl _⟩, fun _ _ => rfl, fun _ _ e => by cases e⟩⟩ (fun i σ H2 hi r => ?_) (fun σ H2 r => ?_)⟩
    · obtain ⟨B2, kvs, o2, o3, o4, rfl, hd, stp⟩ := r
      refine tt_go (sq B2) hi (fun v hv => ?_)
      obtain ⟨d, hd1, hd2⟩ := dpAll_get ha hv
      have hif : i < f.length := by omega
      have ed : d = encL f[i] := by
        rw [List.getElem?_map, List.getElem?_eq_getElem hif] at hd1
        exact (Option.some.inj hd1).symm
      subst ed
      obtain ⟨t, u, rfl, ht, hu2⟩ := dp_slab hd2
      have ht2 := sqT_same (sm B2) ht
      refine ⟨t, _, rfl, ht2, rfl, .int f[i].1, [.int f[i].2.1, u], rfl, .int f[i].2.1, [u], rfl, u, [], rfl, rfl, ?_⟩
      obtain ⟨ks, hk1, hk2⟩ := stp.keys
      have lk : kvs.length ≤ 2 * i := by
        have := congrArg List.length hk1
        rw [List.length_map, List.length_map] at this
        omega
      -- steps[x1] = spans
      refine ⟨u, rfl, .ref p, rfl, .int f[i].1, rfl, p, _, rfl, DPut.k (k := Sum.inl f[i].1) hd (Nat.lt_of_le_of_lt (show kvs.length ≤ 3000 by omega) (by decide)), ?_⟩
      have S2 := stp.put (H' := wo p (upd H2 p (.dK (putK kvs (Sum.inl f[i].1) u)))) (But.at).wo f[i].1 f[i].2.2 u ?_
      rotate_left
      · refine dp_same ?_ (dp_same (?_ : Same H (wo p H2)) hu2)
        · exact (But.at).wo
        · intro b o e
          rw [wo_ne (ne_of_none e hp)]
          exact sm B2 b o e
      have hd2 : upd H2 p (.dK (putK kvs (Sum.inl f[i].1) u)) p = some (.dK (putK kvs (Sum.inl f[i].1) u)) := upd_same
      have B3 : But p H1 (upd H2 p (.dK (putK kvs (Sum.inl f[i].1) u))) := B2.trans But.at
      have lk2 := length_putK kvs (Sum.inl f[i].1) u
      generalize upd H2 p (.dK (putK kvs (Sum.inl f[i].1) u)) = H3 at S2 hd2 B3
      generalize putK kvs (Sum.inl f[i].1) u = kvs2 at S2 hd2 lk2
      -- steps[x2] = ()
      refine ⟨Nat.zero_le _, fun e he => ⟨.ref p, rfl, .int f[i].2.1, rfl, p, _, rfl, DPut.k (k := Sum.inl f[i].2.1) (kvs := kvs2) ?_ (Nat.lt_of_le_of_lt (show kvs2.length ≤ 3000 by omega) (by decide)), ?_⟩⟩
      · rw [upd_ne (ne_of_none hd2 he)]
        exact hd2
      · have ne := (ne_of_none hd2 he).symm
        have S3 : Same (wo p H3) (wo p (upd (upd H3 e (.tup [])) p (.dK (putK kvs2 (Sum.inl f[i].2.1) (.ref e))))) := ((But.of (same_new he)).trans But.at).wo
        have S4 := S2.put S3 f[i].2.1 [] (.ref e) (.tup (.inl (.inl (by rw [wo_ne ne, upd_ne ne, upd_same]))) .nil)
        refine ⟨(B3.trans (But.of (same_new he))).trans But.at, _, _, _, _, rfl, upd_same, S4.congr (fun x => ?_) (by omega)⟩
        have et : f.take (i + 1) = f.take i ++ [f[i]] := by
          rw [List.take_add_one, List.getElem?_eq_getElem hif]
          rfl
        unfold Fm.lookF
        rw [et, List.foldl_append]
        rfl
    · obtain ⟨B2, kvs, o2, o3, o4, rfl, hd, stp⟩ := r
      rw [len, List.take_length] at stp
      exact ⟨tt_end (sq B2), .ref p, rfl, q H2 p kvs (sm B2) hd (stp.same wo_same)⟩
/-! ### form_of_steps -/
def encQ (q : Int × Spans) : PyData := .tuple [.int q.1, encS q.2]
theorem dp_step {H : Hp} {v : V} {q : Int × Spans} (h : Dp K H v (encQ q)) : ∃ t u, v = .ref t ∧ SqT K H t [.int q.1, u] ∧ Dp K H u (encS q.2) := by
  obtain ⟨t, xs, rfl, hs, ha⟩ := dp_tup h
  obtain ⟨x, y, rfl, h1, h2⟩ := dpAll_two ha
  obtain rfl := dp_int h1
  exact ⟨t, y, rfl, hs, h2⟩
theorem eqv_pair (p q : Int × Int) : PyData.eqv (encP p) (encP q) = decide (p = q) := by
  obtain ⟨a, b⟩ := p
  obtain ⟨c, d⟩ := q
  simp only [encP, PyData.eqv, PyData.eqvAll, Bool.and_true]
  rw [Bool.eq_iff_iff]
  simp only [Bool.and_eq_true, beq_iff_eq, decide_eq_true_eq, Prod.mk.injEq]
theorem eqvAll_spans : ∀ s t : Spans, PyData.eqvAll (s.map encP) (t.map encP) = decide (s = t)
  | [], [] => by simp [PyData.eqvAll]
  | [], _ :: _ => by simp [PyData.eqvAll]
  | _ :: _, [] => by simp [PyData.eqvAll]
  | p :: s, q :: t => by
    simp only [List.map_cons, PyData.eqvAll, eqv_pair, eqvAll_spans s t]
    rw [Bool.eq_iff_iff]
    simp
theorem eqv_spans (s t : Spans) : PyData.eqv (encS s) (encS t) = decide (s = t) := by
  unfold encS
  simp only [PyData.eqv]
  exact eqvAll_spans s t
theorem shaped_spans (s : Spans) : SeqAt.shaped (encS s) = true := by
  unfold SeqAt.shaped
  have h1 : PyData.canLay0 (encS s) = true := by
    unfold encS
    simp only [PyData.canLay0]
    induction s with
    | nil => rfl
    | cons p s ih => simp only [List.map_cons, PyData.canLayAll0, encP, PyData.canLay0, Bool.true_and, Bool.and_self, ih]
  have h2 : PyData.depth (encS s) ≤ 2 := by
    unfold encS
    simp only [PyData.depth]
    have : PyData.depthAll (s.map encP) ≤ 1 := depthAll_mem.mpr fun d hd => by
      obtain ⟨p, _, rfl⟩ := List.mem_map.mp hd
      simp [encP, PyData.depth, PyData.depthAll]
    omega
  rw [h1, decide_eq_true (by omega)]
  rfl
theorem tz_go {H : Hp} {P : V → Hp → Prop} {a b : Addr} {xs ys : List V} {i : Nat} {x y : V} (ha : SqL K H a xs) (hb : SqL K H b ys) (hx : xs[i]? = some x) (hy : ys[i]? = some y) (p : ∀ T, H T = none → P (.ref T) (upd H T (.tup [x, y]))) :
    (Itz K a b).go i H ∧ ∀ v H', (Itz K a b).yld i H v H' → P v H' := by
  refine ⟨⟨xs, ys, x, y, ha, hb, hx, hy⟩, ?_⟩
  rintro v H' ⟨T, x1, y1, rfl, nT, rfl, f1, f2⟩
  have e1 : x1 = x := Option.some.inj ((f1 xs ha).symm.trans hx)
  have e2 : y1 = y := Option.some.inj ((f2 ys hb).symm.trans hy)
  subst e1
  subst e2
  exact p T nT
theorem segs_len : ∀ st : Fm.Steps, (Fm.segs st).length = st.length - 1
  | [] => rfl
  | [_] => rfl
  | (a, s) :: (b, t) :: r => by
    have := segs_len ((b, t) :: r)
    simp only [Fm.segs, List.length_cons] at this ⊢
    omega
theorem segs_get : ∀ {st : Fm.Steps} {i : Nat} {p q : Int × Spans}, st[i]? = some p → st[i + 1]? = some q → (Fm.segs st)[i]? = some (p.1, q.1, p.2)
  | [], _, _, _, h, _ => by simp at h
  | [_], 0, _, _, _, h => by simp at h
  | [_], i + 1, _, _, h, _ => by simp at h
  | (a, s) :: (b, t) :: r, 0, p, q, h1, h2 => by
    cases h1
    cases h2
    rfl
  | (a, s) :: (b, t) :: r, i + 1, p, q, h1, h2 => segs_get (st := (b, t) :: r) (i := i) h1 h2
theorem stepF_len (acc : Form) (q : Slab) : (Fm.stepF acc q).length ≤ acc.length + 1 := by
  unfold Fm.stepF
  split
  · split
    · rw [List.length_append, List.length_dropLast]
      show acc.length - 1 + 1 ≤ acc.length + 1
      omega
    · split
      · omega
      · rw [List.length_append]
        exact Nat.le_refl _
  · split
    · omega
    · rw [List.length_append]
      exact Nat.le_refl _
theorem dpAll_snoc {H : Hp} {vs : List V} {ac : Form} {pl : Slab} (h : DpAll K H vs ((ac ++ [pl]).map encL)) : ∃ ws w, vs = ws ++ [w] ∧ DpAll K H ws (ac.map encL) ∧ Dp K H w (encL pl) := by
  have vl : vs.length = ac.length + 1 := by
    rw [dpAll_len h, List.length_map, List.length_append]
    rfl
  rw [List.map_append] at h
  have h1 := dpAll_take ac.length h
  have h2 := dpAll_drop ac.length h
  rw [List.take_left' (List.length_map ..)] at h1
  rw [List.drop_left' (List.length_map ..)] at h2
  rcases nil_or_snoc vs with rfl | ⟨ws, w, rfl⟩
  · simp at vl
  · have lw : ws.length = ac.length := by
      rw [List.length_append] at vl
      simpa using vl
    rw [List.take_left' lw] at h1
    rw [List.drop_left' lw] at h2
    cases h2 with
    | cons a _ => exact ⟨ws, w, rfl, h1, a⟩
def spForm (K : PySem.W.Frag) : Sp := fun vs H Q _ => ∃ (a : Addr) (xs : List V) (st : Fm.Steps), vs = [.ref a] ∧ SqL K H a xs ∧ DpAll K H xs (st.map encQ) ∧ st.length ≤ 5000 ∧ ∀ H' v, Same H H' → Dp K H' v (encF (Fm.formOf st)) → Q v H'
theorem ok_form {f : Addr} {fd : FuncData} {n : Nat} (F : Fun K "form_of_steps" "form_of_steps" sForm f fd) (mz : mg "zip" = none) (mt : mg "tuple" = none) : FnOk P w K mg base CX0 (n + 1) f fd ["steps"] (spForm K) := by
  have nd := scForm.nd
  refine F.ok scForm (fun vs H Q E h => ?_) (fun cdv A outer st H vs Q E hr h => ?_)
  · obtain ⟨a, xs, st, rfl, _⟩ := h
    rfl
  · obtain ⟨a, xs, st, rfl, hs, ha, sz, q⟩ := h
    refine ⟨_, (pss_cons (ps_set (i := 1) nd rfl (Or.inl rfl) (pe_lst pa_nil))
  (pss_cons (ps_for PassesOwn.never rfl (pi_zip (by rfl) mz (pa_cons (pv 0) (pa_cons (pe_slice sl_list (pv 0) (po_some pe_int) po_none) pa_nil))) (pg_tup (by rfl) (pgs_cons (pg_tup (by rfl) (pgs_cons (pg_name (i := 2) nd rfl (Or.inl rfl)) (pgs_cons (pg_name (i := 3) nd rfl (Or.inl rfl)) pgs_nil))) (pgs_cons (pg_tup (by rfl) (pgs_cons (pg_name (i := 4) nd rfl (Or.inl rfl)) (pgs_cons (pg_name (i := 5) nd rfl (Or.inl rfl)) pgs_nil))) pgs_nil)))
  (pss_one (ps_if (PW.pt (pw_and (pt_truth (pv 1) (by intro _; rfl)) (pw_and (pt_cmpR op_eq (pe_ix ix_tup (pe_ix ix_list (pv 1) (pe_un un_neg pe_int) (fun _ _ => rfl)) pe_int (fun _ _ => rfl)) (pv 2) (nomark _)) (pw_and1 (pt_cmpR (op_eqD hr.units) (pe_ix ix_tup (pe_ix ix_list (pv 1) (pe_un un_neg pe_int) (fun _ _ => rfl)) pe_int (fun _ _ => rfl)) (pv 3) (nomark _))))))
  (pss_one (ps_asg (pe_tup (pa_cons (pe_ix ix_tup (pe_ix ix_list (pv 1) (pe_un un_neg pe_int) (fun _ _ => rfl)) pe_int (fun _ _ => rfl)) (pa_cons (pv 4) (pa_cons (pv 3) pa_nil)))) (pg_sub (pv 1) (pe_un un_neg pe_int) set_list)))
  (pss_one (ps_if (pt_truth (pv 3) (by intro _; rfl))
  (pss_one (ps_expr (pe_bm PySem.F.plainAttrs_list PySem.F.slot_list_append PySem.F.type_list_append mt_append (pv 1) (pa_cons (pe_tup (pa_cons (pv 2) (pa_cons (pv 4) (pa_cons (pv 3) pa_nil)))) pa_nil))))
  pss_nil)))))
  (pss_one (ps_ret (pe_callTy call_tuple_of (by rfl) mt (by decide +kernel) (pa_cons (pv 1) pa_nil)))))), ?_⟩
    have len : xs.length = st.length := (dpAll_len ha).trans (List.length_map ..)
    refine ⟨Nat.zero_le _, fun c hc => ?_⟩
    have S1 : Same H (upd H c (.lst [])) := same_new hc
    have L1 : upd H c (.lst []) c = some (.lst []) := upd_same
    generalize upd H c (.lst []) = H1 at S1 L1
    refine ⟨.ref a, rfl, .ref a, rfl, 1, rfl, a, xs, rfl, S1.seq hs, fun b hb => ?_⟩
    have nbc : c ≠ b := ne_of_none L1 hb
    have S2 : Same H1 (upd H1 b (.lst (cutV xs (some 1) none))) := same_new hb
    have Lb : SqL K (upd H1 b (.lst (cutV xs (some 1) none))) b (xs.drop 1) := by
      have := sqL_new (K := K) (H := H1) (p := b) (xs := cutV xs (some 1) none)
      rw [show (1 : Int) = ((1 : Nat) : Int) by rfl, cut_from] at this ⊢
      exact this
    have L2 : upd H1 b (.lst (cutV xs (some 1) none)) c = some (.lst []) := S2 _ _ L1
    generalize upd H1 b (.lst (cutV xs (some 1) none)) = H2 at S2 Lb L2
    have sm : ∀ {H'}, But c H2 H' → Same H H' := fun {H'} B b u e => B b u (ne_of_none e hc) (S2 _ _ (S1 b u e))
    have sa : ∀ {H'}, But c H2 H' → SqL K H' a xs := fun B => (sm B).seq hs
    have sb : ∀ {H'}, But c H2 H' → SqL K H' b (xs.drop 1) := fun B => wo_same.seq (B.wo.seq (sqL_wo nbc.symm Lb))
    refine ⟨a, b, xs, xs.drop 1, rfl, sa But.refl, Lb, wkS (st.length - 1) (fun i σ H' => But c H2 H' ∧ ∃ (vs : List V) (acc : Form) (o2 o3 o4 o5 : Option V), σ = [some (.ref a), some (.ref c), o2, o3, o4, o5] ∧ H' c = some (.lst vs) ∧ DpAll K (wo c H') vs (acc.map encL) ∧ acc.length ≤ i ∧ acc = ((Fm.segs st).take i).foldl Fm.stepF []) ⟨But.refl, [], [], none, none, none, none, rfl, L2, .nil, Nat.le_refl _, rfl⟩ (fun i σ H3 hi r => ?_) (fun σ H3 r => ?_)⟩
    · obtain ⟨B3, vs, acc, o2, o3, o4, o5, rfl, hcv, hD, al, eq⟩ := r
      obtain ⟨p, hp⟩ : ∃ p, st[i]? = some p := ⟨_, List.getElem?_eq_getElem (by omega)⟩
      obtain ⟨p2, hp2⟩ : ∃ p2, st[i + 1]? = some p2 := ⟨_, List.getElem?_eq_getElem (by omega)⟩
      obtain ⟨v1, hv1, hd1⟩ := dpAll_at ha (d := encQ p) (by rw [List.getElem?_map, hp]; rfl)
      obtain ⟨v2, hv2, hd2⟩ := dpAll_at ha (d := encQ p2) (by rw [List.getElem?_map, hp2]; rfl)
      refine tz_go (sa B3) (sb B3) hv1 (by rw [List.getElem?_drop, Nat.add_comm 1 i]; exact hv2) (fun T hT => ?_)
      obtain ⟨t1, u1, rfl, ht1, hu1⟩ := dp_step hd1
      obtain ⟨t2, u2, rfl, ht2, hu2⟩ := dp_step hd2
      have S4 : Same H3 (upd H3 T (.tup [.ref t1, .ref t2])) := same_new hT
      have B4 : But c H2 (upd H3 T (.tup [.ref t1, .ref t2])) := B3.trans (But.of S4)
      have hcv4 := S4 _ _ hcv
      have hD4 := dpAll_same (But.of (p := c) S4).wo hD
      have hT4 : SqT K (upd H3 T (.tup [.ref t1, .ref t2])) T [.ref t1, .ref t2] := sqT_new
      generalize upd H3 T (.tup [.ref t1, .ref t2]) = H4 at S4 B4 hcv4 hD4 hT4
      have sm4 := sm B4
      refine ⟨T, _, rfl, hT4, rfl, .ref t1, [.ref t2], rfl, t1, _, rfl, sqT_same sm4 ht1, rfl, .int p.1, [u1], rfl, u1, [], rfl, rfl, ?_⟩
      refine ⟨.ref t2, [], rfl, t2, _, rfl, sqT_same sm4 ht2, rfl, .int p2.1, [u2], rfl, u2, [], rfl, rfl, rfl, ?_⟩
      have next : Fm.stepF acc (p.1, p2.1, p.2) = ((Fm.segs st).take (i + 1)).foldl Fm.stepF [] := by
        rw [List.take_add_one, segs_get hp hp2, List.foldl_append, ← eq]
        rfl
      have more := stepF_len acc (p.1, p2.1, p.2)
      have hu14 := dp_same sm4 hu1
      have vl : vs.length = acc.length := (dpAll_len hD4).trans (List.length_map ..)
      have Lc : SqL K H4 c vs := .inl (.inl hcv4)
      refine tIfS_of (match acc.getLast? with | some pl => decide (pl.2.1 = p.1 ∧ pl.2.2 = p.2) | none => false) (fun Kt hK => ?_) ?_
      · rcases nil_or_snoc acc with rfl | ⟨ac, pl, rfl⟩
        · obtain rfl : vs = [] := List.eq_nil_of_length_eq_zero vl
          exact ⟨.ref c, rfl, false, .inl ⟨[], Lc, rfl⟩, iteF hK⟩
        · rw [List.getLast?_append] at hK
          obtain ⟨ws, w1, rfl, _, dw⟩ := dpAll_snoc hD4
          obtain ⟨tw, uw, rfl, htw, huw⟩ := dp_slab (dp_same wo_same dw)
          refine ⟨.ref c, rfl, true, .inl ⟨_, Lc, by simp⟩, iteT ?_⟩
          refine ⟨.ref c, rfl, 1, rfl, c, _, (-1 : Int), .ref tw, rfl, rfl, Lc, atI_last _ _, tw, _, 1, .int pl.2.1, rfl, rfl, htw, atI_nat (j := 1) rfl, .int p.1, rfl, rfl, _, rfl, ite2 (fun e1 => ?_) (fun e1 => ?_)⟩
          · have e1' : pl.2.1 = p.1 := V.int.inj (of_decide_eq_true e1)
            refine ⟨.ref c, rfl, 1, rfl, c, _, (-1 : Int), .ref tw, rfl, rfl, Lc, atI_last _ _, tw, _, 2, uw, rfl, rfl, htw, atI_nat (j := 2) rfl, u1, rfl, encS pl.2.2, encS p.2, huw, hu14, shaped_spans _, shaped_spans _, _, rfl, ?_⟩
            rw [eqv_spans]
            have : decide (pl.2.1 = p.1 ∧ pl.2.2 = p.2) = decide (pl.2.2 = p.2) := by simp [e1']
            rw [← this]
            exact hK
          · have e1' : ¬ pl.2.1 = p.1 := fun z => e1 (decide_eq_true (congrArg V.int z))
            have : decide (pl.2.1 = p.1 ∧ pl.2.2 = p.2) = false := by simp [e1']
            have hK' : Kt (decide (pl.2.1 = p.1 ∧ pl.2.2 = p.2)) H4 := hK
            rw [this] at hK'
            exact hK'
      · -- a new slab, wherever it is laid
        have low : Same H (wo c H4) := fun b u e => by
          rw [wo_ne (ne_of_none e hc)]
          exact sm4 b u e
        have tw3 : ∀ {H' : Hp} {e : Addr} {x : Int}, But c H4 H' → c ≠ e → H' e = some (.tup [.int x, .int p2.1, u1]) → Dp K (wo c H') (.ref e) (encL (x, p2.1, p.2)) := fun {H' e x} B ne he =>
          .tup (.inl (.inl (by rw [wo_ne ne.symm]; exact he))) (.cons (.int _) (.cons (.int _) (.cons (dp_same B.wo (dp_same low hu1)) .nil)))
        by_cases hm : ∃ ac pl, acc = ac ++ [pl] ∧ pl.2.1 = p.1 ∧ pl.2.2 = p.2
        · obtain ⟨ac, pl, rfl, m1, m2⟩ := hm
          have hb1 : (match (ac ++ [pl]).getLast? with | some pl => decide (pl.2.1 = p.1 ∧ pl.2.2 = p.2) | none => false) = true := by
            rw [List.getLast?_append]
            show decide (pl.2.1 = p.1 ∧ pl.2.2 = p.2) = true
            exact decide_eq_true ⟨m1, m2⟩
          rw [hb1]
          have hs1 : Fm.stepF (ac ++ [pl]) (p.1, p2.1, p.2) = ac ++ [(pl.1, p2.1, p.2)] := by
            unfold Fm.stepF
            rw [List.getLast?_append]
            show (if pl.2.1 = p.1 ∧ pl.2.2 = p.2 then (ac ++ [pl]).dropLast ++ [(pl.1, p2.1, p.2)] else _) = _
            rw [if_pos ⟨m1, m2⟩, List.dropLast_concat]
          obtain ⟨ws, w1, rfl, dws, dw⟩ := dpAll_snoc hD4
          obtain ⟨tw, uw, rfl, htw, huw⟩ := dp_slab (dp_same wo_same dw)
          refine iteT ⟨.ref c, rfl, 1, rfl, c, _, (-1 : Int), .ref tw, rfl, rfl, Lc, atI_last _ _, tw, _, 0, .int pl.1, rfl, rfl, htw, atI_nat (j := 0) rfl, .int p2.1, rfl, u1, rfl, (by show 3 ≤ sizeLine; decide), fun e he => ?_⟩
          have nce : c ≠ e := ne_of_none hcv4 he
          have S5 : Same H4 (upd H4 e (.tup [.int pl.1, .int p2.1, u1])) := same_new he
          refine ⟨.ref c, rfl, 1, rfl, c, _, (-1 : Int), ws.length, rfl, rfl, S5 _ _ hcv4, (by rw [List.length_append]; exact ixN_last _), ?_⟩
          rw [set_last]
          have B5 : But c H4 (upd (upd H4 e (.tup [.int pl.1, .int p2.1, u1])) c (.lst (ws ++ [.ref e]))) := (But.of S5).trans But.at
          refine ⟨B4.trans B5, ws ++ [.ref e], ac ++ [(pl.1, p2.1, p.2)], _, _, _, _, rfl, upd_same, ?_, by rw [hs1] at more; omega, by rw [← hs1, next]⟩
          rw [List.map_append]
          refine dpAll_app (dpAll_same B5.wo dws) (.cons (tw3 B5 nce ?_) .nil)
          rw [upd_ne nce.symm, upd_same]
        · have hb1 : (match acc.getLast? with | some pl => decide (pl.2.1 = p.1 ∧ pl.2.2 = p.2) | none => false) = false := by
            rcases nil_or_snoc acc with rfl | ⟨ac, pl, rfl⟩
            · rfl
            · rw [List.getLast?_append]
              show decide (pl.2.1 = p.1 ∧ pl.2.2 = p.2) = false
              exact decide_eq_false fun z => hm ⟨ac, pl, rfl, z.1, z.2⟩
          rw [hb1]
          have hs1 : Fm.stepF acc (p.1, p2.1, p.2) = if p.2 = [] then acc else acc ++ [(p.1, p2.1, p.2)] := by
            rcases nil_or_snoc acc with rfl | ⟨ac, pl, rfl⟩
            · rfl
            · unfold Fm.stepF
              rw [List.getLast?_append]
              show (if pl.2.1 = p.1 ∧ pl.2.2 = p.2 then _ else if p.2 = [] then ac ++ [pl] else ac ++ [pl] ++ [(p.1, p2.1, p.2)]) = _
              rw [if_neg fun z => hm ⟨ac, pl, rfl, z.1, z.2⟩]
          obtain ⟨ub, uxs, rfl, hub, hua⟩ := dp_tup hu14
          have ul : uxs.length = p.2.length := (dpAll_len hua).trans (List.length_map ..)
          refine iteF (tIfS_of (!uxs.isEmpty) (fun Kt hK => ⟨.ref ub, rfl, _, .inr (.inl ⟨uxs, hub, rfl⟩), hK⟩) ?_)
          by_cases e2 : p.2 = []
          · have : uxs = [] := List.eq_nil_of_length_eq_zero (by rw [ul, e2]; rfl)
            subst this
            rw [if_pos e2] at hs1
            exact ⟨B4, vs, acc, _, _, _, _, rfl, hcv4, hD4, by omega, by rw [← next, hs1]⟩
          · have : (!uxs.isEmpty) = true := by
              cases uxs with
              | nil =>
                exfalso
                exact e2 (List.eq_nil_of_length_eq_zero ul.symm)
              | cons _ _ => rfl
            rw [this]
            rw [if_neg e2] at hs1
            refine iteT ⟨.ref c, rfl, .inl ⟨rfl, _, Lc⟩, .int p.1, rfl, .int p2.1, rfl, .ref ub, rfl, (by show 3 ≤ sizeLine; decide), fun e he => ?_⟩
            have nce : c ≠ e := ne_of_none hcv4 he
            have S5 : Same H4 (upd H4 e (.tup [.int p.1, .int p2.1, .ref ub])) := same_new he
            refine ⟨c, vs, .ref e, rfl, rfl, S5 _ _ hcv4, Nat.lt_of_le_of_lt (show vs.length ≤ 5000 by omega) (by decide), ?_⟩
            have B5 : But c H4 (upd (upd H4 e (.tup [.int p.1, .int p2.1, .ref ub])) c (.lst (vs ++ [.ref e]))) := (But.of S5).trans But.at
            refine ⟨B4.trans B5, vs ++ [.ref e], acc ++ [(p.1, p2.1, p.2)], _, _, _, _, rfl, upd_same, ?_, by rw [hs1] at more; omega, by rw [← hs1, next]⟩
            rw [List.map_append]
            refine dpAll_app (dpAll_same B5.wo hD4) (.cons (tw3 B5 nce ?_) .nil)
            rw [upd_ne nce.symm, upd_same]
    · obtain ⟨B3, vs, acc, o2, o3, o4, o5, rfl, hcv, hD, al, eq⟩ := r
      refine ⟨⟨_, _, sa B3, sb B3, .inr (by rw [List.length_drop, len]; exact Nat.le_refl _)⟩, ?_⟩
      refine ⟨.ref c, rfl, c, vs, rfl, .inl ⟨.inl (.inl hcv), fun l hl => q _ _ ((sm B3).trans (same_new hl)) ?_⟩⟩
      have full : acc = Fm.formOf st := by
        rw [eq, List.take_of_length_le (by rw [segs_len]; exact Nat.le_refl _)]
        rfl
      subst full
      exact .tup sqT_new (dpAll_same (wo_same.trans (same_new hl)) hD)
/-! ### combined -/
def keysOf (f g : Form) : List Int := Fm.order (Fm.edges f ++ Fm.edges g)
/-- what is kept of two forms -/
def combF (k : Keep) (f g : Form) : Form := Fm.formOf ((keysOf f g).map fun x => (x, combS k (Fm.cross x f) (Fm.cross x g)))
theorem combS_none {k : Keep} (k0 : k false false = false) : combS k [] [] = [] := by
  have h := combS_spec (k := k) (a := []) (b := []) trivial trivial k0
  refine Fm.spans_eq h.1 trivial fun z => ?_
  rw [h.2 z]
  exact k0
theorem combF_of {k : Keep} {f g : Form} {ns : List Int} (k0 : k false false = false) (hf : Fm.OkF f) (hg : Fm.OkF g) (up : ns.Pairwise (· < ·)) (mem : ∀ e, e ∈ ns ↔ e ∈ Fm.edges f ++ Fm.edges g) :
    Fm.formOf (ns.map fun x => (x, combS k (Fm.cross x f) (Fm.cross x g))) = combF k f g ∧ Fm.OkF (combF k f g) ∧ ∀ x, Fm.cross x (combF k f g) = combS k (Fm.cross x f) (Fm.cross x g) := by
  have ok : ∀ x, Fm.Ok (combS k (Fm.cross x f) (Fm.cross x g)) := fun x => (combS_spec (Fm.cross_ok hf) (Fm.cross_ok hg) k0).1
  have h1 := Fm.comb_spec (c := combS k) (f := f) (g := g) (ks := ns) up (fun e he => (mem e).mpr (List.mem_append_left _ he)) (fun e he => (mem e).mpr (List.mem_append_right _ he)) (combS_none k0) ok
  have h2 := Fm.comb_spec (c := combS k) (f := f) (g := g) (ks := keysOf f g) (Fm.order_up _) (fun e he => Fm.mem_order.mpr (List.mem_append_left _ he)) (fun e he => Fm.mem_order.mpr (List.mem_append_right _ he)) (combS_none k0) ok
  exact ⟨Fm.form_eq h1.1 h2.1 fun x => (h1.2 x).trans (h2.2 x).symm, h2.1, h2.2⟩
theorem new_lst {H : Hp} {l : Addr} {xs : List V} (_ : H l = none) : SqL K (upd H l (.lst xs)) l xs := sqL_new
theorem keys_list {kvs : List (Key × V)} {ks : List Int} (h : kvs.map (·.1) = ks.map Sum.inl) : (kvs.map fun kv => kV kv.1) = ks.map V.int := by
  have e : (kvs.map fun kv => kV kv.1) = (kvs.map (·.1)).map kV := by
    rw [List.map_map]
    rfl
  rw [e, h, List.map_map]
  rfl
/-- spans of any column are few -/
def Few (n : Nat) (f : Form) : Prop := f.length ≤ n ∧ ∀ p ∈ f, p.2.2.length ≤ n
theorem few_cross {n : Nat} {x : Int} : ∀ {f : Form}, (∀ p ∈ f, p.2.2.length ≤ n) → (Fm.cross x f).length ≤ n
  | [], _ => Nat.zero_le _
  | p :: r, h => by
    unfold Fm.cross
    split
    · exact h p List.mem_cons_self
    · exact few_cross fun q hq => h q (List.mem_cons_of_mem _ hq)
def spCmb (K : PySem.W.Frag) : Sp := fun vs H Q _ => ∃ va vb vk f g k, vs = [va, vb, vk] ∧ Dp K H va (encF f) ∧ Dp K H vb (encF g) ∧ Dp K H vk (encK k) ∧ Fm.OkF f ∧ Fm.OkF g ∧ k false false = false ∧ Few 900 f ∧ Few 900 g ∧
  ∀ H' v, Same H H' → Dp K H' v (encF (combF k f g)) → Q v H'
theorem ok_cmb {f fS fC fF : Addr} {fd dS dC dF : FuncData} {n : Nat} (F : Fun K "combined" "combined" sCmb f fd)
    (GS : FnOk P w K mg base CX0 n fS dS ["slabs"] (spSteps K)) (kS : PySem.W.keepIn K (.ref fS) = true) (bS : Binds K dS ["slabs"] []) (gS : mg "steps_of" = some (.ref fS))
    (GC : FnOk P w K mg base CX0 n fC dC ["one", "other", "kept"] (spComb K)) (kC : PySem.W.keepIn K (.ref fC) = true) (bC : Binds K dC ["one", "other", "kept"] []) (gC : mg "combined_spans" = some (.ref fC))
    (GF : FnOk P w K mg base CX0 n fF dF ["steps"] (spForm K)) (kF : PySem.W.keepIn K (.ref fF) = true) (bF : Binds K dF ["steps"] []) (gF : mg "form_of_steps" = some (.ref fF))
    (ms : mg "sorted" = none) (mt : mg "set" = none) (ml : mg "list" = none) : FnOk P w K mg base CX0 (n + 1) f fd ["one", "other", "kept"] (spCmb K) := by
  have nd := scCmb.nd
  refine F.ok scCmb (fun vs H Q E h => ?_) (fun cdv A outer st H vs Q E hr h => ?_)
  · obtain ⟨va, vb, vk, f, g, k, rfl, _⟩ := h
    rfl
  · obtain ⟨va, vb, vk, f, g, k, rfl, hA, hB, hK, okf, okg, k0, few1, few2, q⟩ := h
    have hu := hu_of hr
    refine ⟨_, (pss_cons (ps_set (i := 3) nd rfl (Or.inl rfl) (pe_call GS hr (by rfl) gS kS bS .nil pass0 (pa_cons (pv 0) pa_nil)))
  (pss_cons (ps_set (i := 4) nd rfl (Or.inl rfl) (pe_call GS hr (by rfl) gS kS bS .nil pass0 (pa_cons (pv 1) pa_nil)))
  (pss_cons (ps_set (i := 5) nd rfl (Or.inl rfl) (pe_tup pa_nil))
  (pss_cons (ps_set (i := 6) nd rfl (Or.inl rfl) (pe_tup pa_nil))
  (pss_cons (ps_set (i := 7) nd rfl (Or.inl rfl) (pe_lst pa_nil))
  (pss_cons (ps_for PassesOwn.never rfl (pi_list (pe_callB (cr_sortedS rfl) (by rfl) ms (by decide +kernel) (pa_cons (pe_callTy (cr_setL rfl) (by rfl) mt (by decide +kernel) (pa_cons (pe_op op_cat (pe_callTy (call_listD rfl) (by rfl) ml (by decide +kernel) (pa_cons (pv 3) pa_nil)) (pe_callTy (call_listD rfl) (by rfl) ml (by decide +kernel) (pa_cons (pv 4) pa_nil))) pa_nil)) pa_nil))) (pg_name (i := 8) nd rfl (Or.inl rfl))
  (pss_cons (ps_set (i := 5) nd rfl (Or.inl rfl) (pe_dget2 hu (pv 3) (pv 8) (pv 5) ⟨rfl, rfl, rfl, rfl⟩))
  (pss_cons (ps_set (i := 6) nd rfl (Or.inl rfl) (pe_dget2 hu (pv 4) (pv 8) (pv 6) ⟨rfl, rfl, rfl, rfl⟩))
  (pss_one (ps_expr (pe_bm PySem.F.plainAttrs_list PySem.F.slot_list_append PySem.F.type_list_append mt_append (pv 7) (pa_cons (pe_tup (pa_cons (pv 8) (pa_cons (pe_call GC hr (by rfl) gC kC bC .nil pass0 (pa_cons (pv 5) (pa_cons (pv 6) (pa_cons (pv 2) pa_nil)))) pa_nil))) pa_nil)))))))
  (pss_one (ps_ret (pe_call GF hr (by rfl) gF kF bF .nil pass0 (pa_cons (pv 7) pa_nil)))))))))), ?_⟩
    refine ⟨va, rfl, va, f, rfl, hA, by have := few1.1; omega, fun H1 p1 kv1 S1 hp1 st1 => ?_⟩
    refine ⟨vb, rfl, vb, g, rfl, dp_same S1 hB, by have := few2.1; omega, fun H2 p2 kv2 S2 hp2 st2 => ?_⟩
    refine ⟨Nat.zero_le _, fun e1 he1 => ⟨Nat.zero_le _, fun e2 he2 => ⟨Nat.zero_le _, fun c hc => ?_⟩⟩⟩
    have S3 : Same H2 (upd H2 e1 (.tup [])) := same_new he1
    have S4 : Same (upd H2 e1 (.tup [])) (upd (upd H2 e1 (.tup [])) e2 (.tup [])) := same_new he2
    have D1 : Dp K (upd (upd H2 e1 (.tup [])) e2 (.tup [])) (.ref e1) (encS []) := .tup (sqT_same S4 sqT_new) .nil
    have D2 : Dp K (upd (upd H2 e1 (.tup [])) e2 (.tup [])) (.ref e2) (encS []) := .tup sqT_new .nil
    have S24 := S3.trans S4
    generalize upd (upd H2 e1 (.tup [])) e2 (.tup []) = H4 at S24 D1 D2 hc
    have S5 : Same H4 (upd H4 c (.lst [])) := same_new hc
    have L5 : upd H4 c (.lst []) c = some (.lst []) := upd_same
    have D1 := dp_same (same_wo (o := .lst []) hc) D1
    have D2 := dp_same (same_wo (o := .lst []) hc) D2
    have S25 := S24.trans S5
    have S05 := (S1.trans S2).trans S25
    have st1 := st1.same ((S2.trans S24).trans (same_wo (o := .lst []) hc))
    have st2 := st2.same (S24.trans (same_wo (o := .lst []) hc))
    have hp1 := S25 _ _ (S2 _ _ hp1)
    have hp2 := S25 _ _ hp2
    have free : ∀ {b o}, H b = some o → b ≠ c := fun e => ne_of_none (((S1.trans S2).trans S24) _ _ e) hc
    generalize upd H4 c (.lst []) = H5 at L5 D1 D2 S05 st1 st2 hp1 hp2
    obtain ⟨ks1, hk1, hl1⟩ := st1.keys
    obtain ⟨ks2, hk2, hl2⟩ := st2.keys
    have kl1 := keys_list hk1
    have kl2 := keys_list hk2
    have in1 : ∀ x, x ∈ ks1 ↔ x ∈ Fm.edges f := fun x => by
      rw [val_key hk1]
      have ls := Fm.look_spec okf x
      by_cases z : x ∈ Fm.edges f
      · rw [if_pos z] at ls
        obtain ⟨v, hv, _⟩ := st1.so x _ ls
        rw [hv]
        exact ⟨fun _ => z, fun _ => rfl⟩
      · rw [if_neg z] at ls
        rw [st1.no x ls]
        exact ⟨fun e => by simp at e, fun e => absurd e z⟩
    have in2 : ∀ x, x ∈ ks2 ↔ x ∈ Fm.edges g := fun x => by
      rw [val_key hk2]
      have ls := Fm.look_spec okg x
      by_cases z : x ∈ Fm.edges g
      · rw [if_pos z] at ls
        obtain ⟨v, hv, _⟩ := st2.so x _ ls
        rw [hv]
        exact ⟨fun _ => z, fun _ => rfl⟩
      · rw [if_neg z] at ls
        rw [st2.no x ls]
        exact ⟨fun e => by simp at e, fun e => absurd e z⟩
    have z1 := few1.1
    have z2 := few2.1
    refine ⟨.ref p1, rfl, p1, kv1, rfl, .inl hp1, fun l1 h1 => ?_⟩
    have T1 : Same H5 (upd H5 l1 (.lst (kv1.map fun kv => kV kv.1))) := same_new h1
    refine ⟨.ref p2, rfl, p2, kv2, rfl, .inl (T1 _ _ hp2), fun l2 h2 => ?_⟩
    have T2 := same_new (o := .lst (kv2.map fun kv => kV kv.1)) h2
    refine ⟨l1, l2, _, _, rfl, rfl, T2 _ _ upd_same, upd_same, ?_, fun l3 h3 => ?_⟩
    · rw [kl1, kl2, List.length_map, List.length_map]
      exact Nat.le_trans (show ks1.length + ks2.length ≤ 4000 by omega) (by decide)
    have T3 := same_new (o := .lst ((kv1.map fun kv => kV kv.1) ++ kv2.map fun kv => kV kv.1)) h3
    have L3 : ∀ G, SqL K (upd G l3 (.lst ((kv1.map fun kv => kV kv.1) ++ kv2.map fun kv => kV kv.1))) l3 ((ks1 ++ ks2).map V.int) := fun G => by
      have := sqL_new (K := K) (H := G) (p := l3) (xs := (kv1.map fun kv => kV kv.1) ++ kv2.map fun kv => kV kv.1)
      rw [kl1, kl2, ← List.map_append] at this
      rw [kl1, kl2]
      rw [List.map_append] at this
      rw [List.map_append]
      exact this
    refine ⟨l3, ks1 ++ ks2, rfl, L3 _, by rw [List.length_append]; omega, fun sA cN hsA => ?_⟩
    have T4 := same_new (o := L2.SetO w sA (fun j => decide (j ∈ ks1 ++ ks2)) cN) hsA
    refine ⟨sA, _, _, rfl, upd_same, fun ns qm up mem hqm => ?_⟩
    have T5 := same_new (o := .lst (ns.map V.int)) hqm
    have T := (((T1.trans T2).trans T3).trans T4).trans T5
    have Lq := new_lst (K := K) (xs := ns.map V.int) hqm
    have mem' : ∀ e, e ∈ ns ↔ e ∈ Fm.edges f ++ Fm.edges g := fun e => by
      rw [mem e, decide_eq_true_eq, List.mem_append, List.mem_append, in1, in2]
    have many : ns.length ≤ 3600 := by
      have := Fm.up_len up fun x hx => (mem' x).mp hx
      rw [List.length_append, Fm.edges_len, Fm.edges_len] at this
      omega
    obtain ⟨fin, okc, crs⟩ := combF_of k0 okf okg up mem'
    have T0 := S05.trans T
    have keep : ∀ {H'}, But c _ H' → Same H H' := fun {H'} B b u e => B b u (free e) (T0 b u e)
    refine ⟨qm, rfl, ⟨_, Lq⟩, wkS ns.length (fun i σ H' => But c _ H' ∧ ∃ (h1 h2 : V) (vs : List V) (o8 : Option V), σ = [some va, some vb, some vk, some (.ref p1), some (.ref p2), some h1, some h2, some (.ref c), o8] ∧ H' c = some (.lst vs) ∧ Dp K (wo c H') h1 (encS (Fm.prev ns i f)) ∧ Dp K (wo c H') h2 (encS (Fm.prev ns i g)) ∧ DpAll K (wo c H') vs (((ns.take i).map fun x => (x, combS k (Fm.cross x f) (Fm.cross x g))).map encQ)) ⟨But.refl, .ref e1, .ref e2, [], none, rfl, T _ _ L5, ?_, ?_, .nil⟩ (fun i σ H7 hi r => ?_) (fun σ H7 r => ?_)⟩
    · exact dp_same (But.of T).wo D1
    · exact dp_same (But.of T).wo D2
    · obtain ⟨B7, h1, h2, vs, o8, rfl, hc7, dh1, dh2, dvs⟩ := r
      have i' : i < ns.length := hi
      obtain ⟨x, hx⟩ : ∃ x, ns[i]? = some x := ⟨_, List.getElem?_eq_getElem i'⟩
      have nq : qm ≠ c := (ne_of_none (((((T1.trans T2).trans T3).trans T4)) _ _ L5) hqm).symm
      refine tl_go (sqL_wo_at B7 nq Lq) (by rw [List.length_map]; exact hi) (fun v hv => ?_)
      obtain rfl : v = .int x := by
        rw [List.getElem?_map, hx] at hv
        exact (Option.some.inj hv).symm
      have vl : vs.length = i := by
        rw [dpAll_len dvs, List.length_map, List.length_map, List.length_take]
        omega
      have got : ∀ {kvs : List (Key × V)} {m : Nat} {F : Form} {d : V}, Fm.OkF F → (∀ e ∈ Fm.edges F, e ∈ ns) → Steps K (wo c H5) kvs m (Fm.lookF F) → Dp K (wo c H7) d (encS (Fm.prev ns i F)) → Dp K (wo c H7) ((valV kvs (.inl x)).getD d) (encS (Fm.cross x F)) := fun {kvs m F d} ok inn st dd => by
        have e := Fm.prev_next up hx ok inn
        cases z : Fm.lookF F x with
        | none =>
          rw [z] at e
          rw [st.no x z, ← e]
          exact dd
        | some s =>
          rw [z] at e
          obtain ⟨v, hv, dv⟩ := st.so x s z
          rw [hv, ← e]
          exact dp_same ((But.of T).trans B7).wo dv
      have g1 := got okf (fun e he => (mem' e).mpr (List.mem_append_left _ he)) st1 dh1
      have g2 := got okg (fun e he => (mem' e).mpr (List.mem_append_right _ he)) st2 dh2
      have hp17 := B7 p1 _ (ne_of hp1 L5 (by simp)) (T _ _ hp1)
      have hp27 := B7 p2 _ (ne_of hp2 L5 (by simp)) (T _ _ hp2)
      refine ⟨.ref p1, rfl, p1, rfl, .inl ⟨kv1, .inl hp17⟩, .int x, rfl, h1, rfl, _, DGet.k (k := Sum.inl x) hp17, ?_⟩
      refine ⟨.ref p2, rfl, p2, rfl, .inl ⟨kv2, .inl hp27⟩, .int x, rfl, h2, rfl, _, DGet.k (k := Sum.inl x) hp27, ?_⟩
      generalize (valV kv1 (.inl x)).getD h1 = h1' at g1
      generalize (valV kv2 (.inl x)).getD h2 = h2' at g2
      have Lc : SqL K H7 c vs := .inl (.inl hc7)
      refine ⟨.ref c, rfl, .inl ⟨rfl, _, Lc⟩, .int x, rfl, h1', rfl, h2', rfl, vk, rfl, h1', h2', vk, Fm.cross x f, Fm.cross x g, k, rfl, dp_same wo_same g1, dp_same wo_same g2, dp_same (keep B7) hK, Fm.cross_ok okf, Fm.cross_ok okg, k0, ?_, ?_, fun H8 v8 S8 D8 => ?_⟩
      · exact Nat.le_trans (few_cross few1.2) (by decide)
      · exact Nat.le_trans (few_cross few2.2) (by decide)
      · have hc8 := S8 _ _ hc7
        refine ⟨(by show 2 ≤ sizeLine; decide), fun t ht => ?_⟩
        have S9 : Same H8 (upd H8 t (.tup [.int x, v8])) := same_new ht
        have nct : c ≠ t := ne_of_none hc8 ht
        refine ⟨c, vs, .ref t, rfl, rfl, S9 _ _ hc8, Nat.lt_of_le_of_lt (show vs.length ≤ 4000 by omega) (by decide), ?_⟩
        have B9 : But c H7 (upd (upd H8 t (.tup [.int x, v8])) c (.lst (vs ++ [.ref t]))) := (But.of (S8.trans S9)).trans But.at
        refine ⟨B7.trans B9, h1', h2', vs ++ [.ref t], _, rfl, upd_same, ?_, ?_, ?_⟩
        · rw [Fm.prev_at hx]
          exact dp_same B9.wo g1
        · rw [Fm.prev_at hx]
          exact dp_same B9.wo g2
        · rw [List.take_add_one, hx, List.map_append, List.map_append]
          refine dpAll_app (dpAll_same B9.wo dvs) (.cons (.tup (xs := [.int x, v8]) (.inl (.inl ?_)) (.cons (.int _) (.cons ?_ .nil))) .nil)
          · rw [wo_ne nct.symm, upd_ne nct.symm, upd_same]
          · exact dp_same (((But.of S9).trans But.at).wo) (dpS_wo D8 hc8)
    · obtain ⟨B7, h1, h2, vs, o8, rfl, hc7, dh1, dh2, dvs⟩ := r
      have nq : qm ≠ c := (ne_of_none (((((T1.trans T2).trans T3).trans T4)) _ _ L5) hqm).symm
      rw [List.take_length] at dvs
      have e := tl_end (sqL_wo_at B7 nq Lq)
      rw [List.length_map] at e
      refine ⟨e, .ref c, rfl, c, vs, _, rfl, .inl (.inl hc7), dpAll_same wo_same dvs, by rw [List.length_map]; omega, fun H' v S D => q H' v ((keep B7).trans S) ?_⟩
      rw [fin] at D
      exact D
end
end Vf

set_option Elab.async false
set_option linter.all false
set_option maxRecDepth 100000
/-! How large combined forms are; uniting in rounds. -/
namespace Vf
open Fm (Spans Form Slab Keep)

theorem edges_app : ∀ (a b : Form), Fm.edges (a ++ b) = Fm.edges a ++ Fm.edges b
  | [], b => rfl
  | p :: a, b => by
    simp only [List.cons_append, Fm.edges, edges_app a b]
theorem edges_stepF {acc : Form} {q : Slab} {x : Int} (h : x ∈ Fm.edges (Fm.stepF acc q)) : x ∈ Fm.edges acc ∨ x = q.1 ∨ x = q.2.1 := by
  unfold Fm.stepF at h
  split at h
  · rename_i p hp
    split at h
    · have e := Fm.snoc_of hp
      rw [edges_app] at h
      rcases List.mem_append.mp h with h | h
      · left
        rw [e, edges_app]
        exact List.mem_append_left _ h
      · simp only [Fm.edges, List.mem_cons, List.not_mem_nil, or_false] at h
        rcases h with h | h
        · left
          rw [e, edges_app]
          exact List.mem_append_right _ (by simp [Fm.edges, h])
        · exact .inr (.inr h)
    · split at h
      · exact .inl h
      · rw [edges_app] at h
        rcases List.mem_append.mp h with h | h
        · exact .inl h
        · simp only [Fm.edges, List.mem_cons, List.not_mem_nil, or_false] at h
          exact .inr h
  · split at h
    · exact .inl h
    · rw [edges_app] at h
      rcases List.mem_append.mp h with h | h
      · exact .inl h
      · simp only [Fm.edges, List.mem_cons, List.not_mem_nil, or_false] at h
        exact .inr h
theorem edges_fold {x : Int} : ∀ {qs : List Slab} {acc : Form}, x ∈ Fm.edges (qs.foldl Fm.stepF acc) → x ∈ Fm.edges acc ∨ ∃ q ∈ qs, x = q.1 ∨ x = q.2.1
  | [], _, h => .inl h
  | q :: qs, acc, h => by
    rw [List.foldl_cons] at h
    rcases edges_fold h with h | ⟨r, hr, e⟩
    · rcases edges_stepF h with h | h
      · exact .inl h
      · exact .inr ⟨q, List.mem_cons_self, h⟩
    · exact .inr ⟨r, List.mem_cons_of_mem _ hr, e⟩
theorem segs_mem : ∀ {st : Fm.Steps} {q : Slab}, q ∈ Fm.segs st → q.1 ∈ st.map (·.1) ∧ q.2.1 ∈ st.map (·.1)
  | [], _, h => by cases h
  | [_], _, h => by cases h
  | (a, s) :: (b, t) :: r, q, h => by
    simp only [Fm.segs, List.mem_cons] at h
    rcases h with rfl | h
    · simp
    · have := segs_mem h
      exact ⟨List.mem_cons_of_mem _ this.1, List.mem_cons_of_mem _ this.2⟩
theorem edges_comb {k : Keep} {f g : Form} {x : Int} (h : x ∈ Fm.edges (combF k f g)) : x ∈ Fm.edges f ++ Fm.edges g := by
  unfold combF Fm.formOf at h
  rcases edges_fold h with h | ⟨q, hq, e⟩
  · cases h
  · have m := segs_mem hq
    rw [List.map_map] at m
    have key : ∀ {y : Int}, y ∈ ((keysOf f g).map fun x => (x, combS k (Fm.cross x f) (Fm.cross x g))).map (·.1) → y ∈ Fm.edges f ++ Fm.edges g := fun {y} hy => by
      rw [List.map_map] at hy
      obtain ⟨z, hz, rfl⟩ := List.mem_map.mp hy
      exact Fm.mem_order.mp hz
    rw [← List.map_map] at m
    rcases e with rfl | rfl
    · exact key m.1
    · exact key m.2
theorem cross_at : ∀ {f : Form} {p : Slab}, Fm.OkF f → p ∈ f → Fm.cross p.1 f = p.2.2
  | [], _, _, h => by cases h
  | q :: r, p, ok, h => by
    rcases List.mem_cons.mp h with rfl | h
    · have g := (ok.good _ List.mem_cons_self).1
      show (if Fm.inX p.1 p = true then _ else _) = _
      rw [if_pos (by unfold Fm.inX; rw [decide_eq_true (Int.le_refl _), decide_eq_true g]; rfl)]
    · have l := ok.later p h
      show (if Fm.inX p.1 q = true then _ else _) = _
      rw [if_neg (by
        unfold Fm.inX
        rw [decide_eq_false (show ¬ p.1 < q.2.1 by omega), Bool.and_false]
        decide)]
      exact cross_at ok.tail h
theorem lefts_up : ∀ {f : Form}, Fm.OkF f → Fm.Up (f.map (·.1))
  | [], _ => List.Pairwise.nil
  | q :: r, ok => by
    refine List.Pairwise.cons (fun x hx => ?_) (lefts_up ok.tail)
    obtain ⟨p, hp, rfl⟩ := List.mem_map.mp hx
    have := ok.later p hp
    have := (ok.good q List.mem_cons_self).1
    show q.1 < p.1
    omega
/-- a form of n boxes is not larger than this -/
structure Sz (n : Nat) (f : Form) : Prop where
  ok : Fm.OkF f
  xs : ∃ L : List Int, L.length ≤ 2 * n ∧ ∀ e ∈ Fm.edges f, e ∈ L
  ys : ∀ x, (Fm.cross x f).length ≤ n
theorem Sz.few {n : Nat} {f : Form} (s : Sz n f) : Few (2 * n) f := by
  obtain ⟨L, h1, h2⟩ := s.xs
  constructor
  · have := Fm.up_len (lefts_up s.ok) (m := L) fun x hx => by
      obtain ⟨p, hp, rfl⟩ := List.mem_map.mp hx
      exact h2 _ (Fm.mem_edges hp).1
    rw [List.length_map] at this
    omega
  · intro p hp
    have := s.ys p.1
    rw [cross_at s.ok hp] at this
    omega
theorem Sz.mono {n m : Nat} {f : Form} (s : Sz n f) (h : n ≤ m) : Sz m f := by
  obtain ⟨L, h1, h2⟩ := s.xs
  exact ⟨s.ok, ⟨L, by omega, h2⟩, fun x => Nat.le_trans (s.ys x) h⟩
theorem Sz.comb {k : Keep} {n m : Nat} {f g : Form} (a : Sz n f) (b : Sz m g) (k0 : k false false = false) : Sz (n + m) (combF k f g) := by
  obtain ⟨L, h1, h2⟩ := a.xs
  obtain ⟨M, h3, h4⟩ := b.xs
  have sp := combF_of (ns := keysOf f g) k0 a.ok b.ok (Fm.order_up _) fun e => Fm.mem_order
  refine ⟨sp.2.1, ⟨L ++ M, by rw [List.length_append]; omega, fun e he => ?_⟩, fun x => ?_⟩
  · rcases List.mem_append.mp (edges_comb he) with h | h
    · exact List.mem_append_left _ (h2 e h)
    · exact List.mem_append_right _ (h4 e h)
  · rw [sp.2.2 x]
    have := combS_len k (Fm.cross x f) (Fm.cross x g)
    have := a.ys x
    have := b.ys x
    omega
/-- a square of the form -/
def sqF (f : Form) (x y : Int) : Bool := Fm.inS y (Fm.cross x f)
theorem Sz.sq {k : Keep} {n m : Nat} {f g : Form} (a : Sz n f) (b : Sz m g) (k0 : k false false = false) (x y : Int) : sqF (combF k f g) x y = k (sqF f x y) (sqF g x y) := by
  have sp := combF_of (ns := keysOf f g) k0 a.ok b.ok (Fm.order_up _) fun e => Fm.mem_order
  unfold sqF
  rw [sp.2.2 x]
  exact (combS_spec (Fm.cross_ok a.ok) (Fm.cross_ok b.ok) k0).2 y
theorem form_sq {f g : Form} (a : Fm.OkF f) (b : Fm.OkF g) (h : ∀ x y, sqF f x y = sqF g x y) : f = g :=
  Fm.form_eq a b fun x => Fm.spans_eq (Fm.cross_ok a) (Fm.cross_ok b) fun z => h x z
theorem sz_nil (n : Nat) : Sz n [] := ⟨⟨fun _ h => (nomatch h), trivial⟩, ⟨[], Nat.zero_le _, fun _ h => (nomatch h)⟩, fun _ => Nat.zero_le _⟩

/-! ### uniting -/
abbrev kOr : Keep := fun a b => a || b
def pairs : List Form → List Form
  | f :: g :: r => combF kOr f g :: pairs r
  | [f] => [combF kOr f []]
  | [] => []
theorem pairs_len : ∀ l : List Form, (pairs l).length = (l.length + 1) / 2
  | [] => rfl
  | [_] => by simp [pairs]
  | _ :: _ :: r => by
    simp only [pairs, List.length_cons, pairs_len r]
    omega
theorem pairs_at : ∀ (l : List Form) (i : Nat) (f : Form), l[2 * i]? = some f → (pairs l)[i]? = some (combF kOr f (l[2 * i + 1]?.getD []))
  | [], i, f, h => by simp at h
  | [g], 0, f, h => by
    simp at h
    subst h
    rfl
  | [g], i + 1, f, h => by
    simp at h
  | g :: g' :: r, 0, f, h => by
    simp at h
    subst h
    rfl
  | g :: g' :: r, i + 1, f, h => by
    have e : 2 * (i + 1) = 2 * i + 1 + 1 := by omega
    have e2 : 2 * (i + 1) + 1 = (2 * i + 1) + 1 + 1 := by omega
    rw [e] at h
    simp only [List.getElem?_cons_succ] at h
    have := pairs_at r i f h
    rw [e2]
    simp only [pairs, List.getElem?_cons_succ]
    exact this
def uni (l : List Form) : Form :=
  if h : l.length ≤ 1 then l.headD [] else uni (pairs l)
termination_by l.length
decreasing_by
  rw [pairs_len]
  omega
theorem uni_one {l : List Form} (h : l.length ≤ 1) : uni l = l.headD [] := by
  rw [uni, dif_pos h]
theorem uni_more {l : List Form} (h : 1 < l.length) : uni l = uni (pairs l) := by
  rw [uni, dif_neg (by omega)]
/-- forms of one box each, together of n boxes -/
inductive Szs : Nat → List Form → Prop
  | nil (n) : Szs n []
  | cons {n m f r} : Sz n f → Szs m r → Szs (n + m) (f :: r)
theorem Szs.pairs : ∀ {l : List Form} {n : Nat}, Szs n l → Szs n (pairs l)
  | [], _, .nil n => .nil n
  | [f], _, .cons a (.nil m) => .cons ((a.comb (sz_nil 0) rfl).mono (Nat.le_of_eq (Nat.add_zero _))) (.nil m)
  | _ :: _ :: r, _, .cons (n := n) a (.cons (n := n') (m := m) b c) => by
    rw [← Nat.add_assoc]
    exact .cons (a.comb b rfl) c.pairs
theorem pairs_sq : ∀ {l : List Form} {n : Nat} (x y : Int), Szs n l → ((Vf.pairs l).any fun f => sqF f x y) = l.any fun f => sqF f x y
  | [], _, _, _, .nil _ => rfl
  | [f], _, x, y, .cons a (.nil m) => by
    show (sqF (combF kOr f []) x y || false) = (sqF f x y || false)
    rw [a.sq (sz_nil 0) rfl]
    show ((sqF f x y || false) || false) = _
    rw [Bool.or_false]
  | f :: g :: r, _, x, y, .cons (n := n) a (.cons (n := n') (m := m) b c) => by
    show (sqF (combF kOr f g) x y || _) = (sqF f x y || (sqF g x y || _))
    rw [a.sq b rfl, pairs_sq x y c, Bool.or_assoc]
theorem uni_spec {n : Nat} : ∀ (m : Nat) (l : List Form), l.length ≤ m → Szs n l → Sz n (uni l) ∧ ∀ x y, sqF (uni l) x y = l.any fun f => sqF f x y
  | m, l, h, s => by
    by_cases z : l.length ≤ 1
    · rw [uni_one z]
      match l, z, s with
      | [], _, .nil _ => exact ⟨sz_nil _, fun x y => rfl⟩
      | [f], _, .cons a _ => exact ⟨a.mono (Nat.le_add_right _ _), fun x y => (Bool.or_false _).symm⟩
    · rw [uni_more (by omega)]
      match m, h with
      | 0, h => omega
      | m + 1, h =>
        have ih := uni_spec m (pairs l) (by rw [pairs_len]; omega) s.pairs
        exact ⟨ih.1, fun x y => (ih.2 x y).trans (pairs_sq x y s)⟩
/-- one box -/
def boxF (b : Int × Int × Int × Int) : Form := [(b.1, b.2.2.1, [(b.2.1, b.2.2.2)])]
def okB (b : Int × Int × Int × Int) : Prop := b.1 < b.2.2.1 ∧ b.2.1 < b.2.2.2
theorem boxF_sz {b : Int × Int × Int × Int} (h : okB b) : Sz 1 (boxF b) := by
  refine ⟨⟨fun p hp => ?_, trivial⟩, ⟨[b.1, b.2.2.1], Nat.le_refl _, fun e he => he⟩, fun x => ?_⟩
  · rw [List.mem_singleton.mp hp]
    exact ⟨h.1, ⟨h.2, fun _ h => (by cases h), trivial⟩, by simp⟩
  · show (if Fm.inX x _ = true then _ else _ : Spans).length ≤ 1
    split
    · exact Nat.le_refl _
    · exact Nat.zero_le _
theorem boxF_sq (b : Int × Int × Int × Int) (x y : Int) : sqF (boxF b) x y = (decide (b.1 ≤ x) && decide (x < b.2.2.1) && (decide (b.2.1 ≤ y) && decide (y < b.2.2.2))) := by
  show Fm.inS y (if Fm.inX x (b.1, b.2.2.1, [(b.2.1, b.2.2.2)]) = true then [(b.2.1, b.2.2.2)] else []) = _
  unfold Fm.inX
  by_cases z : (decide (b.1 ≤ x) && decide (x < b.2.2.1)) = true
  · rw [if_pos z, z, Bool.true_and]
    show (_ || false) = _
    rw [Bool.or_false]
  · rw [if_neg z]
    have : (decide (b.1 ≤ x) && decide (x < b.2.2.1)) = false := by
      revert z
      cases (decide (b.1 ≤ x) && decide (x < b.2.2.1)) <;> simp
    rw [this, Bool.false_and]
    rfl
theorem boxes_szs : ∀ {bs : List (Int × Int × Int × Int)}, (∀ b ∈ bs, okB b) → Szs bs.length (bs.map boxF)
  | [], _ => .nil 0
  | b :: bs, h => by
    rw [List.length_cons, Nat.add_comm, List.map_cons]
    exact .cons (boxF_sz (h b List.mem_cons_self)) (boxes_szs fun c hc => h c (List.mem_cons_of_mem _ hc))
/-- the form of boxes -/
def formB (bs : List (Int × Int × Int × Int)) : Form := uni (bs.map boxF)
theorem formB_sz {bs : List (Int × Int × Int × Int)} (h : ∀ b ∈ bs, okB b) : Sz bs.length (formB bs) := (uni_spec _ _ (Nat.le_refl _) (boxes_szs h)).1
theorem formB_sq {bs : List (Int × Int × Int × Int)} (h : ∀ b ∈ bs, okB b) (x y : Int) : sqF (formB bs) x y = bs.any fun b => sqF (boxF b) x y := by
  refine ((uni_spec _ _ (Nat.le_refl _) (boxes_szs h)).2 x y).trans ?_
  rw [List.any_map]
  rfl
end Vf

set_option Elab.async false
set_option linter.all false
set_option maxRecDepth 100000
/-! Where the coordinates of a form come from. -/
namespace Vf
open PySem PySem.Spec PyProof.Rows L2
open Fm (Spans Form Slab Keep)
theorem mem_pairUp : ∀ {l : List Int} {q : Int × Int}, q ∈ Fm.pairUp l → q.1 ∈ l ∧ q.2 ∈ l
  | [], _, h => nomatch h
  | [_], _, h => nomatch h
  | a :: b :: r, q, h => by
    rcases List.mem_cons.mp h with rfl | h
    · exact ⟨List.mem_cons_self, List.mem_cons_of_mem _ List.mem_cons_self⟩
    · have := mem_pairUp h
      exact ⟨List.mem_cons_of_mem _ (List.mem_cons_of_mem _ this.1), List.mem_cons_of_mem _ (List.mem_cons_of_mem _ this.2)⟩
theorem mem_put {y c : Int} {l : List Int} (h : c ∈ Fm.put y l) : c = y ∨ c ∈ l := by
  unfold Fm.put at h
  split at h
  · exact .inr (List.dropLast_subset _ h)
  · rcases List.mem_append.mp h with h | h
    · exact .inr h
    · exact .inl (List.mem_singleton.mp h)
theorem mem_fold {k : Keep} {c : Int} : ∀ {ms : List Fm.Mark} {s : List Int × Bool × Bool}, c ∈ (ms.foldl (Fm.turn k) s).1 → c ∈ s.1 ∨ ∃ m ∈ ms, m.1 = c
  | [], _, h => .inl h
  | m :: ms, s, h => by
    rcases mem_fold (ms := ms) h with h | ⟨m', hm, e⟩
    · unfold Fm.turn at h
      dsimp only at h
      split at h
      · rcases mem_put h with h | h
        · exact .inr ⟨m, List.mem_cons_self, h.symm⟩
        · exact .inl h
      · exact .inl h
    · exact .inr ⟨m', List.mem_cons_of_mem _ hm, e⟩
theorem mem_ends {s : Spans} {c : Int} : c ∈ Fm.ends s → ∃ q ∈ s, c = q.1 ∨ c = q.2 := by
  induction s with
  | nil => intro h; cases h
  | cons p s ih =>
    intro h
    rcases List.mem_cons.mp h with rfl | h
    · exact ⟨p, List.mem_cons_self, .inl rfl⟩
    · rcases List.mem_cons.mp h with rfl | h
      · exact ⟨p, List.mem_cons_self, .inr rfl⟩
      · obtain ⟨q, hq, e⟩ := ih h
        exact ⟨q, List.mem_cons_of_mem _ hq, e⟩
def InSp (S : Int → Prop) (s : Spans) : Prop := ∀ q ∈ s, S q.1 ∧ S q.2
theorem inSp_comb {S : Int → Prop} {k : Keep} {a b : Spans} (ha : InSp S a) (hb : InSp S b) : InSp S (combS k a b) := by
  have key : ∀ c, c ∈ (Fm.sweep k ((Fm.marks a b).mergeSort fun p q => decide (p.1 ≤ q.1))).1 → S c := fun c h => by
    rcases mem_fold h with h | ⟨m, hm, rfl⟩
    · cases h
    · have hm := (List.mergeSort_perm _ _).mem_iff.mp hm
      unfold Fm.marks at hm
      rcases List.mem_append.mp hm with hm | hm
      · obtain ⟨y, hy, rfl⟩ := List.mem_map.mp hm
        obtain ⟨q, hq, rfl | rfl⟩ := mem_ends hy
        · exact (ha q hq).1
        · exact (ha q hq).2
      · obtain ⟨y, hy, rfl⟩ := List.mem_map.mp hm
        obtain ⟨q, hq, rfl | rfl⟩ := mem_ends hy
        · exact (hb q hq).1
        · exact (hb q hq).2
  intro q hq
  unfold combS at hq
  have := mem_pairUp hq
  exact ⟨key _ this.1, key _ this.2⟩
/-- all coordinates of a form -/
def InC (S T : Int → Prop) (f : Form) : Prop := ∀ p ∈ f, S p.1 ∧ S p.2.1 ∧ InSp T p.2.2
theorem InC.nil {S T : Int → Prop} : InC S T [] := fun _ h => nomatch h
theorem InC.cross {S T : Int → Prop} {x : Int} : ∀ {f : Form}, InC S T f → InSp T (Fm.cross x f)
  | [], _ => fun _ h => nomatch h
  | p :: f, h => by
    unfold Fm.cross
    split
    · exact (h p List.mem_cons_self).2.2
    · exact InC.cross fun q hq => h q (List.mem_cons_of_mem _ hq)
theorem InC.edges {S T : Int → Prop} {f : Form} (h : InC S T f) : ∀ e ∈ Fm.edges f, S e := by
  induction f with
  | nil => intro e he; cases he
  | cons p f ih =>
    intro e he
    unfold Fm.edges at he
    rcases List.mem_cons.mp he with rfl | he
    · exact (h p List.mem_cons_self).1
    · rcases List.mem_cons.mp he with rfl | he
      · exact (h p List.mem_cons_self).2.1
      · exact ih (fun q hq => h q (List.mem_cons_of_mem _ hq)) e he
theorem InC.comb {S T : Int → Prop} {k : Keep} {f g : Form} (a : InC S T f) (b : InC S T g) (okf : Fm.OkF f) (okg : Fm.OkF g) (k0 : k false false = false) : InC S T (combF k f g) := by
  have sp := combF_of (ns := keysOf f g) k0 okf okg (Fm.order_up _) fun e => Fm.mem_order
  intro p hp
  have ed : ∀ e ∈ Fm.edges (combF k f g), S e := fun e he => by
    rcases List.mem_append.mp (edges_comb he) with h | h
    · exact a.edges e h
    · exact b.edges e h
  have m := Fm.mem_edges hp
  refine ⟨ed _ m.1, ed _ m.2, ?_⟩
  have e := cross_at sp.2.1 hp
  rw [← e, sp.2.2]
  exact inSp_comb a.cross b.cross
theorem InC.pairs {S T : Int → Prop} : ∀ {l : List Form} {n : Nat}, Szs n l → (∀ f ∈ l, InC S T f) → ∀ f ∈ Vf.pairs l, InC S T f
  | [], _, .nil _, _ => fun _ h => nomatch h
  | [f], _, .cons a (.nil _), h => fun g hg => by
    rw [List.mem_singleton.mp hg]
    exact (h f List.mem_cons_self).comb .nil a.ok (sz_nil 0).ok rfl
  | f :: g :: r, _, .cons a (.cons b c), h => fun e he => by
    rcases List.mem_cons.mp he with rfl | he
    · exact (h f List.mem_cons_self).comb (h g (List.mem_cons_of_mem _ List.mem_cons_self)) a.ok b.ok rfl
    · exact InC.pairs c (fun e he => h e (List.mem_cons_of_mem _ (List.mem_cons_of_mem _ he))) e he
theorem InC.uni {S T : Int → Prop} : ∀ (m : Nat) {l : List Form} {n : Nat}, l.length ≤ m → Szs n l → (∀ f ∈ l, InC S T f) → InC S T (Vf.uni l)
  | m, l, n, h, s, i => by
    by_cases z : l.length ≤ 1
    · rw [uni_one z]
      match l, i with
      | [], _ => exact .nil
      | f :: _, i => exact i f List.mem_cons_self
    · rw [uni_more (by omega)]
      match m, h with
      | 0, h => omega
      | m + 1, h => exact InC.uni m (by rw [pairs_len]; omega) s.pairs (InC.pairs s i)
/-- a box's coordinates -/
def InB (S T : Int → Prop) (b : Int × Int × Int × Int) : Prop := S b.1 ∧ S b.2.2.1 ∧ T b.2.1 ∧ T b.2.2.2
theorem inC_formB {S T : Int → Prop} {bs : List (Int × Int × Int × Int)} (ok : ∀ b ∈ bs, okB b) (h : ∀ b ∈ bs, InB S T b) : InC S T (formB bs) := by
  refine InC.uni _ (Nat.le_refl _) (boxes_szs ok) fun f hf => ?_
  obtain ⟨b, hb, rfl⟩ := List.mem_map.mp hf
  have := h b hb
  intro p hp
  rw [List.mem_singleton.mp hp]
  refine ⟨this.1, this.2.1, fun q hq => ?_⟩
  rw [List.mem_singleton.mp hq]
  exact ⟨this.2.2.1, this.2.2.2⟩
/-- the left ends of spans go up -/
theorem ok_lefts : ∀ {s : Spans}, Fm.Ok s → Fm.Up (s.map (·.1))
  | [], _ => List.Pairwise.nil
  | p :: r, o => by
    refine List.pairwise_cons.mpr ⟨fun y hy => ?_, ok_lefts o.2.2⟩
    obtain ⟨q, hq, rfl⟩ := List.mem_map.mp hy
    have h1 := o.2.1 q hq
    have h2 := o.1
    show p.1 < q.1
    omega
theorem few_inC {f : Form} {LX LY : List Int} {n : Nat} (ok : Fm.OkF f) (h : InC (· ∈ LX) (· ∈ LY) f) (hx : LX.length ≤ n) (hy : LY.length ≤ n) : Few n f := by
  constructor
  · have := Fm.up_len (lefts_up ok) (m := LX) fun x hx => by
      obtain ⟨p, hp, rfl⟩ := List.mem_map.mp hx
      exact (h p hp).1
    rw [List.length_map] at this
    omega
  · intro p hp
    have := Fm.up_len (ok_lefts (ok.good p hp).2.1) (m := LY) fun x hx => by
      obtain ⟨q, hq, rfl⟩ := List.mem_map.mp hx
      exact ((h p hp).2.2 q hq).1
    rw [List.length_map] at this
    omega
/-- boxes along not too many lines -/
def BFew (bs : List (Int × Int × Int × Int)) : Prop := bs.length ≤ 20000 ∧ ∃ LX LY : List Int, LX.length ≤ 900 ∧ LY.length ≤ 900 ∧ ∀ b ∈ bs, InB (· ∈ LX) (· ∈ LY) b
theorem bfew_of {bs : List (Int × Int × Int × Int)} (h : bs.length ≤ 400) : BFew bs := by
  refine ⟨by omega, bs.map (·.1) ++ bs.map (·.2.2.1), bs.map (·.2.1) ++ bs.map (·.2.2.2), ?_, ?_, fun b hb => ⟨?_, ?_, ?_, ?_⟩⟩
  · rw [List.length_append, List.length_map, List.length_map]; omega
  · rw [List.length_append, List.length_map, List.length_map]; omega
  · exact List.mem_append_left _ (List.mem_map.mpr ⟨b, hb, rfl⟩)
  · exact List.mem_append_right _ (List.mem_map.mpr ⟨b, hb, rfl⟩)
  · exact List.mem_append_left _ (List.mem_map.mpr ⟨b, hb, rfl⟩)
  · exact List.mem_append_right _ (List.mem_map.mpr ⟨b, hb, rfl⟩)
theorem inC_boxes {S T : Int → Prop} {bs : List (Int × Int × Int × Int)} (h : ∀ b ∈ bs, InB S T b) : ∀ f ∈ bs.map boxF, InC S T f := fun f hf => by
  obtain ⟨b, hb, rfl⟩ := List.mem_map.mp hf
  have := h b hb
  intro p hp
  rw [List.mem_singleton.mp hp]
  refine ⟨this.1, this.2.1, fun q hq => ?_⟩
  rw [List.mem_singleton.mp hq]
  exact ⟨this.2.2.1, this.2.2.2⟩
end Vf

set_option Elab.async false
set_option linter.all false
set_option maxRecDepth 100000
/-! xs[m::2] of a list. -/
namespace Vf
open PySem PySem.Spec PyProof.Rows L2

/-- every other item -/
def ev {α : Type} : List α → List α
  | a :: _ :: r => a :: ev r
  | [a] => [a]
  | [] => []
theorem ev_len {α : Type} : ∀ l : List α, (ev l).length = (l.length + 1) / 2
  | [] => by simp [ev]
  | [_] => by simp [ev]
  | _ :: _ :: r => by
    simp only [ev, List.length_cons, ev_len r]
    omega
theorem ev_at {α : Type} : ∀ (l : List α) (i : Nat), (ev l)[i]? = l[2 * i]?
  | [], i => by simp [ev]
  | [a], 0 => rfl
  | [a], i + 1 => by simp [ev]
  | a :: b :: r, 0 => rfl
  | a :: b :: r, i + 1 => by
    have e : 2 * (i + 1) = 2 * i + 1 + 1 := by omega
    rw [e]
    simp only [ev, List.getElem?_cons_succ]
    exact ev_at r i
theorem vals_ev : ∀ {xs : List V} {us : List Value}, Vals xs us → Vals (ev xs) (ev us)
  | [], _, .nil => .nil
  | [_], _, .cons r .nil => .cons r .nil
  | _ :: _ :: _, _, .cons r (.cons _ t) => .cons r (vals_ev t)
theorem vals_drop : ∀ {xs : List V} {us : List Value} (n : Nat), Vals xs us → Vals (xs.drop n) (us.drop n)
  | _, _, 0, h => h
  | [], _, _ + 1, .nil => .nil
  | _ :: _, _, n + 1, .cons _ t => vals_drop n t
theorem ev_range {α : Type} (l : List α) (m : Nat) : ∀ k, (List.range k).filterMap (fun i => l[m + 2 * i]?) = (ev (l.drop m)).take k
  | 0 => by simp
  | k + 1 => by
    rw [List.range_succ, List.filterMap_append, ev_range l m k, List.take_add_one, ev_at, List.getElem?_drop]
    cases h : l[m + 2 * k]? <;> simp [h]
theorem pick_step (items : List Value) (lo : Option Int) (m : Nat) (h : lo = none ∧ m = 0 ∨ lo = some (m : Int)) (hm : m ≤ items.length) : slicePick items.toArray lo none (some 2) = (ev (items.drop m)).toArray := by
  have e : sliceBounds lo none (some 2) items.toArray.size = ((m : Int), (items.length : Int), 2) := by
    rcases h with ⟨rfl, rfl⟩ | rfl
    · simp [sliceBounds]
    · simp only [sliceBounds, Option.getD_some, List.size_toArray]
      have h1 : ¬ ((m : Int) < 0) := by omega
      simp only [h1, if_false, show (2 : Int) > 0 by decide, if_true]
      congr 1
      omega
  unfold slicePick
  rw [e]
  unfold sliceRange
  have cnt : (if (2 : Int) > 0 then (if (m : Int) < (items.length : Int) then ((items.length : Int) - (m : Int) + 2 - 1) / 2 else 0) else (if (m : Int) > (items.length : Int) then ((m : Int) - (items.length : Int) - 2 - 1) / (-2) else 0)).toNat = (items.length - m + 1) / 2 := by
    rw [if_pos (by decide)]
    by_cases z : (m : Int) < (items.length : Int)
    · rw [if_pos z]
      omega
    · rw [if_neg z]
      omega
  dsimp only
  rw [cnt, List.filterMap_map]
  have fn : ((fun x => items.toArray[x]?) ∘ fun (k : Nat) => ((m : Int) + 2 * (k : Int)).toNat) = fun k => items[m + 2 * k]? := by
    funext k
    show items.toArray[((m : Int) + 2 * (k : Int)).toNat]? = _
    rw [show ((m : Int) + 2 * (k : Int)).toNat = m + 2 * k by omega]
    simp
  rw [fn, ev_range, List.take_of_length_le]
  rw [ev_len, List.length_drop]
  exact Nat.le_refl _
section
variable {X : Cx}
def tSt2 (K : PySem.W.Frag) (te : TE) (tl : TO) : TE := fun σ H Q => te σ H fun x H1 => tl σ H1 fun lo H2 => ∃ (a : Addr) (xs : List V) (m : Nat), x = .ref a ∧ SqL K H2 a xs ∧ (lo = none ∧ m = 0 ∨ lo = some (m : Int)) ∧ m ≤ xs.length ∧ ∀ p, H2 p = none → Q (.ref p) (upd H2 p (.lst (ev (xs.drop m))))
/-- xs[lo::2] -/
theorem pe_step2 {e : Expr} {lo : Option Expr} {te : TE} {tl : TO} {k : Nat} {p1 p3 pos : Pos} (he : PE X e te) (hl : PO X lo tl) : PE X (.Subscript e (.Slice lo none (some (.Constant (.int 2) k p1)) p3) pos) (tSt2 X.K te tl) := by
  refine ⟨fun pins s σ H Q I h => ?_⟩
  refine Subscript_ (thn (he.run pins s σ H _ I h) fun v s1 ⟨x, H1, I1, r1, q1⟩ => ?_)
  have hst : PO X (some (.Constant (.int 2) k p1)) (tPart (tC (.int 2))) := po_some pe_int
  refine wpAny_Slice (thn (hl.run pins s1 σ H1 _ I1 q1) fun vl s2 ⟨l, H2, I2, pl, q2⟩ => ?_)
  obtain ⟨a, xs, m, ex, hx, hm, hle, q⟩ := q2
  subst ex
  cases r1
  refine thn (po_none.run pins s2 σ H2 (fun o H3 => o = none ∧ H3 = H2) I2 ⟨rfl, rfl⟩) fun vu s3 ⟨u, H3, I3, pu, eu, e3⟩ => ?_
  subst eu e3
  refine thn (hst.run pins s3 σ H3 (fun o H4 => o = some 2 ∧ H4 = H3) I3 ⟨2, rfl, rfl, rfl⟩) fun vs s4 ⟨o, H4, I4, ps, eo, e4⟩ => ?_
  subst eo e4
  have I5 : Inv X pins σ H4 { s4 with heap := s4.heap.push { cls := .type "slice", data := .fields #[vl, vu, vs] } } := I4.kept (t' := s4.toks) fun b ob q => Heap.get?_push_of_some _ q
  obtain ⟨its, r, ht, hz⟩ := I5.list hx
  have hlen := r.length
  show wpAny (model X.prog X.w) X.A (subscriptTail e (.Slice lo none (some (.Constant (.int 2) k p1)) p3) (.ref a) (.ref s4.heap.objs.size)) (EP X pins σ Q) X.xe { s4 with heap := s4.heap.push { cls := .type "slice", data := .fields #[vl, vu, vs] } }
  refine tail_any (ops := [.ref a, .ref s4.heap.objs.size]) ht.isList.typeIs (PySem.slot_list_getitem.lookup) ?_ (by with_unfolding_all rfl)
  refine wpAny_getItem_list_slice ht.isList (Heap.IsSliceOf.new _ vl vu vs) pl pu ps (by decide) ?_ (by rw [List.size_toArray]; omega)
  rw [pick_step its l m hm (by omega)]
  refine ⟨.ref _, _, I5.laid (t' := s4.toks) (o := .lst (ev (xs.drop m))) (fun b ob q => Heap.get?_push_of_some _ q) (Nat.le_refl _) ?_, rfl, q _ (I5.hok.fresh (Nat.le_refl _))⟩
  exact ⟨by rw [ev_len, List.length_drop]; omega, _, 0, vals_ev (vals_drop m r), Heap.get?_push_size _ rfl⟩
end
end Vf

set_option Elab.async false
set_option linter.all false
set_option maxRecDepth 100000
/-! form_of_boxes. -/
namespace Vf
open PySem PySem.Spec PyProof.Rows L2
open C8 (pss_cut tCut)
open Fm (Spans Form Slab Keep)
theorem scBoxes : FnScope ["boxes", "forms", "x1", "y1", "x2", "y2", "one", "other"] ["boxes"] (defScope sBoxes) := ⟨rfl, rfl, rfl, by decide +kernel, rfl, by decide +kernel, by decide +kernel⟩
def encB (b : Int × Int × Int × Int) : PyData := .tuple [.int b.1, .int b.2.1, .int b.2.2.1, .int b.2.2.2]
section
variable {P : Program} {w : World} {K : PySem.W.Frag} {mg : Str → Option Value} {base : Heap}
theorem szs_mem : ∀ {l : List Form} {n : Nat}, Szs n l → ∀ f ∈ l, Sz n f
  | [], _, _, _, h => by cases h
  | g :: r, _, .cons (n := n) (m := m) a b, f, h => by
    rcases List.mem_cons.mp h with rfl | h
    · exact a.mono (Nat.le_add_right _ _)
    · exact (szs_mem b f h).mono (Nat.le_add_left _ _)
theorem dp_box {H : Hp} {v : V} {b : Int × Int × Int × Int} (h : Dp K H v (encB b)) : ∃ t, v = .ref t ∧ SqT K H t [.int b.1, .int b.2.1, .int b.2.2.1, .int b.2.2.2] := by
  obtain ⟨t, xs, rfl, hs, ha⟩ := dp_tup h
  obtain ⟨x, y, z, u, rfl, h1, h2, h3, h4⟩ := dpAll_four ha
  obtain rfl := dp_int h1
  obtain rfl := dp_int h2
  obtain rfl := dp_int h3
  obtain rfl := dp_int h4
  exact ⟨t, rfl, hs⟩
theorem new_box {H : Hp} {p1 p2 p3 p4 : Addr} {b : Int × Int × Int × Int} (h1 : H p1 = some (.tup [.int b.2.1, .int b.2.2.2])) (h2 : H p2 = some (.tup [.ref p1])) (h3 : H p3 = some (.tup [.int b.1, .int b.2.2.1, .ref p2])) (h4 : H p4 = some (.tup [.ref p3])) :
    Dp K H (.ref p4) (encF (boxF b)) :=
  .tup (xs := [.ref p3]) (.inl (.inl h4)) (.cons (.tup (xs := [.int b.1, .int b.2.2.1, .ref p2]) (.inl (.inl h3)) (.cons (.int _) (.cons (.int _) (.cons (.tup (xs := [.ref p1]) (.inl (.inl h2)) (.cons (.tup (xs := [.int b.2.1, .int b.2.2.2]) (.inl (.inl h1)) (.cons (.int _) (.cons (.int _) .nil))) .nil)) .nil)))) .nil)
theorem dpL_wo {H : Hp} {c : Addr} {l : List V} {v : V} {p : Slab} (h : Dp K H v (encL p)) (hc : H c = some (.lst l)) : Dp K (wo c H) v (encL p) := by
  obtain ⟨t, u, rfl, ht, hu⟩ := dp_slab h
  exact .tup (sqT_wo ht hc) (.cons (.int _) (.cons (.int _) (.cons (dpS_wo hu hc) .nil)))
theorem dpLs_wo {H : Hp} {c : Addr} {l : List V} (hc : H c = some (.lst l)) : ∀ {f : Form} {vs : List V}, DpAll K H vs (f.map encL) → DpAll K (wo c H) vs (f.map encL)
  | [], _, .nil => .nil
  | _ :: _, _, .cons a r => .cons (dpL_wo a hc) (dpLs_wo hc r)
theorem dpF_wo {H : Hp} {c : Addr} {l : List V} {v : V} {f : Form} (h : Dp K H v (encF f)) (hc : H c = some (.lst l)) : Dp K (wo c H) v (encF f) := by
  obtain ⟨t, xs, rfl, hs, ha⟩ := dp_tup h
  exact .tup (sqT_wo hs hc) (dpLs_wo hc ha)
/-- a tuple of the text: which of two forms' squares to keep -/
def KTup (K : PySem.W.Frag) (mg : Str → Option Value) (x : Str) (k : Keep) : Prop := ∃ e : Addr, mg x = some (.ref e) ∧ ∀ H, Dp K H (.ref e) (encK k)
def spBoxes (K : PySem.W.Frag) : Sp := fun vs H Q _ => ∃ (v : V) (bs : List (Int × Int × Int × Int)), vs = [v] ∧ Dp K H v (.tuple (bs.map encB)) ∧ (∀ b ∈ bs, okB b) ∧ BFew bs ∧ ∀ H' u, Same H H' → Dp K H' u (encF (formB bs)) → Q u H'
theorem ok_boxes {f fC : Addr} {fd dC : FuncData} {n : Nat} (F : Fun K "form_of_boxes" "form_of_boxes" sBoxes f fd)
    (GC : FnOk P w K mg base CX0 n fC dC ["one", "other", "kept"] (spCmb K)) (kC : PySem.W.keepIn K (.ref fC) = true) (bC : Binds K dC ["one", "other", "kept"] []) (gC : mg "combined" = some (.ref fC))
    (kE : KTup K mg "EITHER" kOr) (mi : mg "int" = none) (ml : mg "len" = none) (mz : mg "zip" = none) : FnOk P w K mg base CX0 (n + 1) f fd ["boxes"] (spBoxes K) := by
  have nd := scBoxes.nd
  obtain ⟨eE, gE, hE⟩ := kE
  refine F.ok scBoxes (fun vs H Q E h => ?_) (fun cdv A outer st H vs Q E hr h => ?_)
  · obtain ⟨v, bs, rfl, _⟩ := h
    rfl
  · obtain ⟨v, bs, rfl, hB, okb, ⟨sz, LX, LY, lx, ly, ib⟩, q⟩ := h
    refine ⟨_, (pss_cons (ps_setLc (i := 1) (own := [("x1", 2), ("y1", 3), ("x2", 4), ("y2", 5)]) (g := gTup K 4 (gCons (gName 2) (gCons (gName 3) (gCons (gName 4) (gCons (gName 5) gNil))))) (tt := tYes) rfl nd rfl rfl (sw_true rfl rfl rfl (by decide +kernel)) (pi_tup (pv 0)) (blkOk_by (N := ["boxes", "forms", "x1", "y1", "x2", "y2", "one", "other"]) (sc := defScope sBoxes) (by decide +kernel)) (fun _ _ _ _ _ => (pg_tup (by rfl) (pgs_cons (pg_name (i := 2) nd rfl (Or.inl rfl)) (pgs_cons (pg_name (i := 3) nd rfl (Or.inl rfl)) (pgs_cons (pg_name (i := 4) nd rfl (Or.inl rfl)) (pgs_cons (pg_name (i := 5) nd rfl (Or.inl rfl)) pgs_nil)))))) (fun _ _ _ _ _ => pts_nil) (fun _ _ _ _ _ => (pe_tup (pa_cons (pe_tup (pa_cons (pe_callTy call_int1 (by rfl) mi (by decide +kernel) (pa_cons (pv 2) pa_nil)) (pa_cons (pe_callTy call_int1 (by rfl) mi (by decide +kernel) (pa_cons (pv 4) pa_nil)) (pa_cons (pe_tup (pa_cons (pe_tup (pa_cons (pe_callTy call_int1 (by rfl) mi (by decide +kernel) (pa_cons (pv 3) pa_nil)) (pa_cons (pe_callTy call_int1 (by rfl) mi (by decide +kernel) (pa_cons (pv 5) pa_nil)) pa_nil))) pa_nil)) pa_nil)))) pa_nil))))
  (pss_cut (ps_while PassesOwn.never (pt_cmpR op_gt (pe_callB call_len_seq (by rfl) ml PySem.boot_len (pa_cons (pv 1) pa_nil)) pe_int (nomark _))
  (pss_one (ps_setLc (i := 1) (own := [("one", 6), ("other", 7)]) (g := gTup K 2 (gCons (gName 6) (gCons (gName 7) gNil))) (tt := tYes) rfl nd rfl rfl (sw_true rfl rfl rfl (by decide +kernel)) (pi_zip (by rfl) mz (pa_cons (pe_step2 (pv 1) po_none) (pa_cons (pe_op op_cat (pe_step2 (pv 1) (po_some pe_int)) (pe_lst (pa_cons (pe_tup pa_nil) pa_nil))) pa_nil))) (blkOk_by (N := ["boxes", "forms", "x1", "y1", "x2", "y2", "one", "other"]) (sc := defScope sBoxes) (by decide +kernel)) (fun _ _ _ _ _ => (pg_tup (by rfl) (pgs_cons (pg_name (i := 6) nd rfl (Or.inl rfl)) (pgs_cons (pg_name (i := 7) nd rfl (Or.inl rfl)) pgs_nil)))) (fun _ _ _ _ _ => pts_nil) (fun _ _ _ _ _ => (pe_call GC hr (by rfl) gC kC bC .nil pass0 (pa_cons (pv 6) (pa_cons (pv 7) (pa_cons (pe_glob (v := .ref eE) (by rfl) gE rfl) pa_nil))))))))
  (pss_one (ps_ret (pe_ifExp (pt_truth (pv 1) (by intro _; rfl)) (pe_ix ix_list (pv 1) pe_int (fun _ _ => rfl)) (pe_tup pa_nil)))))), ?_⟩
    obtain ⟨a, xs, rfl, hs, ha⟩ := dp_tup hB
    have len : xs.length = bs.length := (dpAll_len ha).trans (List.length_map ..)
    refine ⟨.ref a, rfl, a, rfl, ⟨_, hs⟩, fun c hc => ?_⟩
    have S1 : Same H (upd H c (.lst [])) := same_new hc
    have L1 : upd H c (.lst []) c = some (.lst []) := upd_same
    generalize upd H c (.lst []) = H1 at S1 L1
    have sm : ∀ {H'}, But c H1 H' → Same H H' := fun {H'} B b u e => B b u (ne_of_none e hc) (S1 b u e)
    refine wk xs.length (fun i H' => But c H1 H' ∧ ∃ vs, H' c = some (.lst vs) ∧ DpAll K (wo c H') vs (((bs.take i).map boxF).map encF)) ⟨But.refl, [], L1, .nil⟩ (fun i H2 hi r => ?_) (fun H2 r => ?_)
    · obtain ⟨B2, vs, hL, dv⟩ := r
      refine tt_go (sqT_same (sm B2) hs) hi (fun z hz => ?_)
      obtain ⟨d, hd1, hd2⟩ := dpAll_get ha hz
      have hif : i < bs.length := by omega
      have ed : d = encB bs[i] := by
        rw [List.getElem?_map, List.getElem?_eq_getElem hif] at hd1
        exact (Option.some.inj hd1).symm
      subst ed
      obtain ⟨t, rfl, ht⟩ := dp_box (dp_same (sm B2) hd2)
      have vl : vs.length = i := by
        rw [dpAll_len dv, List.length_map, List.length_map, List.length_take]
        omega
      refine ⟨t, _, rfl, ht, rfl, _, _, rfl, _, _, rfl, _, _, rfl, _, _, rfl, rfl, rfl, ?_⟩
      refine ⟨.int bs[i].1, rfl, .inl ⟨bs[i].1, rfl, .int bs[i].2.2.1, rfl, .inl ⟨bs[i].2.2.1, rfl, .int bs[i].2.1, rfl, .inl ⟨bs[i].2.1, rfl, .int bs[i].2.2.2, rfl, .inl ⟨bs[i].2.2.2, rfl, (by show 2 ≤ sizeLine; decide), fun p1 h1 => ⟨(by show 1 ≤ sizeLine; decide), fun p2 h2 => ⟨(by show 3 ≤ sizeLine; decide), fun p3 h3 => ⟨(by show 1 ≤ sizeLine; decide), fun p4 h4 => ?_⟩⟩⟩⟩⟩⟩⟩⟩
      have T1 := same_new (o := .tup [.int bs[i].2.1, .int bs[i].2.2.2]) h1
      have T2 := same_new (o := .tup [.ref p1]) h2
      have T3 := same_new (o := .tup [.int bs[i].1, .int bs[i].2.2.1, .ref p2]) h3
      have T4 := same_new (o := .tup [.ref p3]) h4
      have g1 := T4 _ _ (T3 _ _ (T2 _ _ (upd_same (H := H2) (a := p1) (o := .tup [.int bs[i].2.1, .int bs[i].2.2.2]))))
      have g2 := T4 _ _ (T3 _ _ (upd_same (a := p2) (o := .tup [.ref p1])))
      have g3 := T4 _ _ (upd_same (a := p3) (o := .tup [.int bs[i].1, .int bs[i].2.2.1, .ref p2]))
      have g4 := upd_same (H := upd (upd (upd H2 p1 (.tup [.int bs[i].2.1, .int bs[i].2.2.2])) p2 (.tup [.ref p1])) p3 (.tup [.int bs[i].1, .int bs[i].2.2.1, .ref p2])) (a := p4) (o := .tup [.ref p3])
      have S4 := ((T1.trans T2).trans T3).trans T4
      have n1 : p1 ≠ c := (ne_of_none hL h1).symm
      have n2 : p2 ≠ c := (ne_of_none (T1 _ _ hL) h2).symm
      have n3 : p3 ≠ c := (ne_of_none (T2 _ _ (T1 _ _ hL)) h3).symm
      have n4 : p4 ≠ c := (ne_of_none (T3 _ _ (T2 _ _ (T1 _ _ hL))) h4).symm
      generalize upd (upd (upd (upd H2 p1 (.tup [.int bs[i].2.1, .int bs[i].2.2.2])) p2 (.tup [.ref p1])) p3 (.tup [.int bs[i].1, .int bs[i].2.2.1, .ref p2])) p4 (.tup [.ref p3]) = H4 at S4 g1 g2 g3 g4
      have B4 : But c H2 (upd H4 c (.lst (vs ++ [.ref p4]))) := (But.of S4).trans But.at
      have at4 : ∀ {p o}, p ≠ c → H4 p = some o → wo c (upd H4 c (.lst (vs ++ [.ref p4]))) p = some o := fun n h => by
        rw [wo_ne n, upd_ne n]
        exact h
      refine ⟨vs, S4 _ _ hL, Nat.lt_of_le_of_lt (show vs.length ≤ 30000 by omega) (by decide), B2.trans B4, vs ++ [.ref p4], upd_same, ?_⟩
      rw [List.take_add_one, List.getElem?_eq_getElem hif, List.map_append, List.map_append]
      exact dpAll_app (dpAll_same B4.wo dv) (.cons (new_box (at4 n1 g1) (at4 n2 g2) (at4 n3 g3) (at4 n4 g4)) .nil)
    · obtain ⟨B2, vs, hL, dv⟩ := r
      rw [len, List.take_length] at dv
      have S2 := sm B2
      have dv2 := dpAll_same (wo_same (p := c)) dv
      refine ⟨tt_end (sqT_same S2 hs), fun σ H' => Same H H' ∧ ∃ (c : Addr) (vs : List V) (fs : List Form) (o2 o3 o4 o5 o6 o7 : Option V), σ = [some (.ref a), some (.ref c), o2, o3, o4, o5, o6, o7] ∧ H' c = some (.lst vs) ∧ DpAll K H' vs (fs.map encF) ∧ fs.length ≤ 1 ∧ uni fs = formB bs, ⟨fun m σ H' => Same H H' ∧ ∃ (c : Addr) (vs : List V) (fs : List Form) (o2 o3 o4 o5 o6 o7 : Option V), σ = [some (.ref a), some (.ref c), o2, o3, o4, o5, o6, o7] ∧ H' c = some (.lst vs) ∧ DpAll K H' vs (fs.map encF) ∧ fs.length = m ∧ fs.length ≤ 20000 ∧ uni fs = formB bs ∧ Szs bs.length fs ∧ (∀ f ∈ fs, InC (· ∈ LX) (· ∈ LY) f), ⟨_, S2, c, vs, bs.map boxF, none, none, none, none, none, none, rfl, hL, dv2, rfl, by rw [List.length_map]; exact sz, rfl, boxes_szs okb, inC_boxes ib⟩, ?_⟩, ?_⟩
      · rintro m σ H3 ⟨S3, c, vs, fs, o2, o3, o4, o5, o6, o7, rfl, hL, dv, fm, f4, ue, zs, ic⟩
        have vl : vs.length = fs.length := (dpAll_len dv).trans (List.length_map ..)
        refine ⟨.ref c, rfl, c, vs, rfl, .inl (.inl (.inl hL)), _, _, rfl, rfl, _, rfl, ite2 (fun e => ?_) (fun e => ?_)⟩
        · have e' : 1 < fs.length := by
            have : (1 : Int) < (vs.length : Int) := of_decide_eq_true e
            omega
          refine ⟨fun σ H' => Same H H' ∧ ∃ (c : Addr) (vs : List V) (o2 o3 o4 o5 o6 o7 : Option V), σ = [some (.ref a), some (.ref c), o2, o3, o4, o5, o6, o7] ∧ H' c = some (.lst vs) ∧ DpAll K H' vs ((pairs fs).map encF), fun σ' H' h => ?_, ?_⟩
          · obtain ⟨S', c', vs', o2', o3', o4', o5', o6', o7', rfl, hL', dv'⟩ := h
            exact ⟨(pairs fs).length, by rw [pairs_len]; omega, S', c', vs', pairs fs, _, _, _, _, _, _, rfl, hL', dv', rfl, by rw [pairs_len]; omega, by rw [← uni_more e']; exact ue, zs.pairs, InC.pairs zs ic⟩
          refine ⟨.ref c, rfl, c, vs, 0, rfl, .inl (.inl hL), .inl ⟨rfl, rfl⟩, Nat.zero_le _, fun l1 h1 => ?_⟩
          have S4 := same_new (o := .lst (ev (vs.drop 0))) h1
          have L4 := upd_same (H := H3) (a := l1) (o := .lst (ev (vs.drop 0)))
          have hL4 := S4 _ _ hL
          generalize upd H3 l1 (.lst (ev (vs.drop 0))) = H4 at S4 L4 hL4
          refine ⟨.ref c, rfl, 1, rfl, c, vs, 1, rfl, .inl (.inl hL4), .inr rfl, by omega, fun l2 h2 => ⟨Nat.zero_le _, fun t0 ht0 => ⟨(by show 1 ≤ sizeLine; decide), fun l3 h3 => ?_⟩⟩⟩
          have S5 := same_new (o := .lst (ev (vs.drop 1))) h2
          have S6 := same_new (o := .tup []) ht0
          have S7 := same_new (o := .lst [.ref t0]) h3
          have g2 := S7 _ _ (S6 _ _ (upd_same (H := H4) (a := l2) (o := .lst (ev (vs.drop 1)))))
          have gt := S7 _ _ (upd_same (H := upd H4 l2 (.lst (ev (vs.drop 1)))) (a := t0) (o := .tup []))
          have S47 := (S4.trans (S5.trans S6)).trans S7
          have L7 := S7 _ _ (S6 _ _ (S5 _ _ L4))
          refine ⟨l2, l3, _, _, rfl, rfl, g2, upd_same, ?_, fun l4 h4 => ?_⟩
          · rw [ev_len, List.length_drop]
            exact Nat.le_trans (show (vs.length - 1 + 1) / 2 + 1 ≤ 40000 by omega) (by decide)
          have S8 := same_new (o := .lst (ev (vs.drop 1) ++ [.ref t0])) h4
          have g4 := upd_same (H := upd (upd (upd H4 l2 (.lst (ev (vs.drop 1)))) t0 (.tup [])) l3 (.lst [.ref t0])) (a := l4) (o := .lst (ev (vs.drop 1) ++ [.ref t0]))
          have gt := S8 _ _ gt
          have L8 := S8 _ _ L7
          have S48 := S47.trans S8
          generalize upd (upd (upd (upd H4 l2 (.lst (ev (vs.drop 1)))) t0 (.tup [])) l3 (.lst [.ref t0])) l4 (.lst (ev (vs.drop 1) ++ [.ref t0])) = H8 at S48 g4 gt L8
          rw [List.drop_zero] at L8
          refine ⟨l1, l4, _, _, rfl, .inl (.inl L8), .inl (.inl g4), fun D hD => ?_⟩
          have S9 := same_new (o := .lst []) hD
          have g9 := upd_same (H := H8) (a := D) (o := .lst [])
          have L9 := S9 _ _ L8
          have g4 := S9 _ _ g4
          have gt := S9 _ _ gt
          have S39 := S48.trans S9
          have nD1 : l1 ≠ D := ne_of_none L8 hD
          have nD4 : l4 ≠ D := ne_of_none (by assumption) hD
          generalize upd H8 D (.lst []) = H9 at S9 S39 g9 L9 g4 gt
          refine wk (pairs fs).length (fun i H' => But D H9 H' ∧ ∃ ws, H' D = some (.lst ws) ∧ DpAll K (wo D H') ws (((pairs fs).take i).map encF)) ⟨But.refl, [], g9, .nil⟩ (fun i H10 hi r => ?_) (fun H10 r => ?_)
          · obtain ⟨B, ws, hD', dw⟩ := r
            rw [pairs_len] at hi
            obtain ⟨f, hf⟩ : ∃ f, fs[2 * i]? = some f := ⟨_, List.getElem?_eq_getElem (by omega)⟩
            have S310 : Same H3 H10 := fun b u z => B b u (ne_of_none (S48 b u z) hD) (S9 b u (S48 b u z))
            obtain ⟨v1, hv1, d1⟩ := dpAll_at dv (d := encF f) (by rw [List.getElem?_map, hf]; rfl)
            have hx : (ev vs)[i]? = some v1 := by
              rw [ev_at]
              exact hv1
            have el : (ev (vs.drop 1)).length = (vs.length - 1 + 1) / 2 := by rw [ev_len, List.length_drop]
            have nt : t0 ≠ D := ne_of_none (by assumption) hD
            obtain ⟨v2, hy, d2⟩ : ∃ v2, (ev (vs.drop 1) ++ [V.ref t0])[i]? = some v2 ∧ Dp K H10 v2 (encF (fs[2 * i + 1]?.getD [])) := by
              cases hg : fs[2 * i + 1]? with
              | some g =>
                obtain ⟨v2, hv2, d2⟩ := dpAll_at dv (d := encF g) (by rw [List.getElem?_map, hg]; rfl)
                have := (List.getElem?_eq_some_iff.mp hg).1
                refine ⟨v2, ?_, dp_same S310 d2⟩
                rw [List.getElem?_append_left (by omega), ev_at, List.getElem?_drop, Nat.add_comm 1]
                exact hv2
              | none =>
                have := List.getElem?_eq_none_iff.mp hg
                refine ⟨.ref t0, ?_, .tup (.inl (.inl (B _ _ nt gt))) .nil⟩
                rw [List.getElem?_append_right (by omega), show i - (ev (vs.drop 1)).length = 0 by omega]
                rfl
            refine tz_go (.inl (.inl (B _ _ nD1 L9))) (.inl (.inl (B _ _ nD4 g4))) hx hy (fun T hT => ?_)
            have S11 := same_new (o := .tup [v1, v2]) hT
            have hTq : SqT K (upd H10 T (.tup [v1, v2])) T [v1, v2] := sqT_new
            have hD11 := S11 _ _ hD'
            generalize upd H10 T (.tup [v1, v2]) = H11 at S11 hTq hD11
            have few : ∀ {g}, Sz bs.length g → InC (· ∈ LX) (· ∈ LY) g → Few 900 g := fun z i => few_inC z.ok i lx ly
            have zf := szs_mem zs f (List.mem_of_getElem? hf)
            have zg : Sz bs.length (fs[2 * i + 1]?.getD []) := by
              cases hg : fs[2 * i + 1]? with
              | some g => exact szs_mem zs g (List.mem_of_getElem? hg)
              | none => exact sz_nil _
            have jf := ic f (List.mem_of_getElem? hf)
            have jg : InC (· ∈ LX) (· ∈ LY) (fs[2 * i + 1]?.getD []) := by
              cases hg : fs[2 * i + 1]? with
              | some g => exact ic g (List.mem_of_getElem? hg)
              | none => exact .nil
            have wl : ws.length = i := by
              rw [dpAll_len dw, List.length_map, List.length_take, pairs_len]
              omega
            refine ⟨T, _, rfl, hTq, rfl, _, _, rfl, _, _, rfl, rfl, rfl, ?_⟩
            refine ⟨v1, rfl, v2, rfl, v1, v2, .ref eE, f, _, kOr, rfl, dp_same (S310.trans S11) d1, dp_same S11 d2, hE _, zf.ok, zg.ok, rfl, few zf jf, few zg jg, fun H12 v S12 D12 => ?_⟩
            have hD12 := S12 _ _ hD11
            have B12 : But D H10 (upd H12 D (.lst (ws ++ [v]))) := (But.of (S11.trans S12)).trans But.at
            refine ⟨ws, hD12, Nat.lt_of_le_of_lt (show ws.length ≤ 30000 by omega) (by decide), B.trans B12, ws ++ [v], upd_same, ?_⟩
            rw [List.take_add_one, pairs_at fs i f hf, List.map_append]
            exact dpAll_app (dpAll_same B12.wo dw) (.cons (dp_same But.at.wo (dpF_wo D12 hD12)) .nil)
          · obtain ⟨B, ws, hD', dw⟩ := r
            rw [List.take_length] at dw
            have S310 : Same H3 H10 := fun b u z => B b u (ne_of_none (S48 b u z) hD) (S9 b u (S48 b u z))
            refine ⟨⟨_, _, .inl (.inl (B _ _ nD1 L9)), .inl (.inl (B _ _ nD4 g4)), .inl ?_⟩, S3.trans S310, D, ws, o2, o3, o4, o5, o6, o7, rfl, hD', dpAll_same wo_same dw⟩
            rw [ev_len, pairs_len, vl]
            exact Nat.le_refl _
        · have e' : fs.length ≤ 1 := by
            have : ¬ (1 : Int) < (vs.length : Int) := fun z => e (decide_eq_true z)
            omega
          exact ⟨S3, c, vs, fs, o2, o3, o4, o5, o6, o7, rfl, hL, dv, e', ue⟩
      · rintro σ H3 ⟨S3, c, vs, fs, o2, o3, o4, o5, o6, o7, rfl, hL, dv, fm, ue⟩
        have vl : vs.length = fs.length := (dpAll_len dv).trans (List.length_map ..)
        have Lc : SqL K H3 c vs := .inl (.inl hL)
        match vs, fs, dv, vl, fm, ue, Lc with
        | [], [], _, _, _, ue, Lc =>
          refine ⟨.ref c, rfl, false, .inl ⟨_, Lc, rfl⟩, iteF ⟨Nat.zero_le _, fun p hp => q _ _ (S3.trans (same_new hp)) ?_⟩⟩
          rw [← ue, uni_one (Nat.zero_le _)]
          exact .tup (.inl (.inl upd_same)) .nil
        | [v], [f], .cons d .nil, _, fm, ue, Lc =>
          refine ⟨.ref c, rfl, true, .inl ⟨_, Lc, rfl⟩, iteT ⟨.ref c, rfl, c, _, 0, v, rfl, rfl, Lc, atI_nat (j := 0) rfl, q _ _ S3 ?_⟩⟩
          rw [← ue, uni_one fm]
          exact d
        | _ :: _ :: _, _, _, vl, fm, _, _ =>
          exfalso
          simp only [List.length_cons] at vl
          omega
end
end Vf

set_option Elab.async false
set_option linter.all false
set_option maxRecDepth 100000
/-! spans_at and has_square. -/
namespace Vf
open PySem PySem.Spec PyProof.Rows L2
open C8 (pss_cut tCut)
open Fm (Spans Form Slab Keep)
theorem scAt : FnScope ["slabs", "x", "x1", "x2", "spans"] ["slabs", "x"] (defScope sAt) := ⟨rfl, rfl, rfl, by decide +kernel, rfl, by decide +kernel, by decide +kernel⟩
theorem scHas : FnScope ["slabs", "x", "y", "y1", "y2"] ["slabs", "x", "y"] (defScope sHas) := ⟨rfl, rfl, rfl, by decide +kernel, rfl, by decide +kernel, by decide +kernel⟩
theorem eq_false_of_ne_true' {b : Bool} (h : ¬ b = true) : b = false := by cases b <;> simp_all
section
variable {P : Program} {w : World} {K : PySem.W.Frag} {mg : Str → Option Value} {base : Heap}
def spAt (K : PySem.W.Frag) : Sp := fun vs H Q _ => ∃ v x f, vs = [v, .int x] ∧ Dp K H v (encF f) ∧ ∀ H' u, Same H H' → Dp K H' u (encS (Fm.cross x f)) → Q u H'
theorem ok_at {f : Addr} {fd : FuncData} {n : Nat} (F : Fun K "spans_at" "spans_at" sAt f fd) : FnOk P w K mg base CX0 (n + 1) f fd ["slabs", "x"] (spAt K) := by
  have nd := scAt.nd
  refine F.ok scAt (fun vs H Q E h => ?_) (fun cdv A outer st H vs Q E hr h => ?_)
  · obtain ⟨v, x, f, rfl, _⟩ := h
    rfl
  · obtain ⟨v, x, f, rfl, hF, q⟩ := h
    refine ⟨_, (pss_cons (ps_for PassesOwn.never rfl (pi_tup (pv 0)) (pg_tup (by rfl) (pgs_cons (pg_name (i := 2) nd rfl (Or.inl rfl)) (pgs_cons (pg_name (i := 3) nd rfl (Or.inl rfl)) (pgs_cons (pg_name (i := 4) nd rfl (Or.inl rfl)) pgs_nil))))
  (pss_one (ps_if (pt_chain op_le op_lt (pv 2) (pv 1) (pv 3))
  (pss_one (ps_ret (pv 4)))
  pss_nil)))
  (pss_one (ps_ret (pe_tup pa_nil)))), ?_⟩
    obtain ⟨A0, xs, rfl, hs, ha⟩ := dp_tup hF
    have len : xs.length = f.length := (dpAll_len ha).trans (List.length_map ..)
    refine ⟨.ref A0, rfl, A0, rfl, ⟨_, hs⟩, wkS xs.length (fun i σ H' => H' = H ∧ ∃ (o2 o3 o4 : Option V), σ = [some (.ref A0), some (.int x), o2, o3, o4] ∧ ∀ p ∈ f.take i, Fm.inX x p = false) ⟨rfl, none, none, none, rfl, fun _ h => by simp at h⟩ (fun i σ H2 hi r => ?_) (fun σ H2 r => ?_)⟩
    · obtain ⟨rfl, o2, o3, o4, rfl, no⟩ := r
      refine tt_go hs hi (fun v hv => ?_)
      obtain ⟨d, hd1, hd2⟩ := dpAll_get ha hv
      have hif : i < f.length := by omega
      have ed : d = encL f[i] := by
        rw [List.getElem?_map, List.getElem?_eq_getElem hif] at hd1
        exact (Option.some.inj hd1).symm
      subst ed
      obtain ⟨t, u, rfl, ht, hu2⟩ := dp_slab hd2
      refine ⟨t, _, rfl, ht, rfl, .int f[i].1, [.int f[i].2.1, u], rfl, .int f[i].2.1, [u], rfl, u, [], rfl, rfl, ?_⟩
      have et : f.take (i + 1) = f.take i ++ [f[i]] := by
        rw [List.take_add_one, List.getElem?_eq_getElem hif]
        rfl
      have stop : Fm.inX x f[i] = true → Fm.cross x f = f[i].2.2 := fun e => by
        have : f = f.take i ++ (f[i] :: f.drop (i + 1)) := by
          rw [← List.drop_eq_getElem_cons hif, List.take_append_drop]
        have no2 : (f.take i).any (Fm.inX x) = false := by
          rw [List.any_eq_false]
          intro p hp
          rw [no p hp]
          decide
        rw [show Fm.cross x f = Fm.cross x (f.take i ++ (f[i] :: f.drop (i + 1))) from congrArg _ this, Fm.cross_app, no2, if_neg (by decide)]
        show (if Fm.inX x f[i] = true then _ else _) = _
        rw [if_pos e]
      have more : Fm.inX x f[i] = false → ∀ p ∈ f.take (i + 1), Fm.inX x p = false := fun e p hp => by
        rw [et] at hp
        rcases List.mem_append.mp hp with hp | hp
        · exact no p hp
        · rw [List.mem_singleton.mp hp]
          exact e
      refine tIfS_of (Fm.inX x f[i]) (fun Kt hK => ?_) ?_
      · refine ⟨.int f[i].1, rfl, .int x, rfl, f[i].1, x, rfl, rfl, _, rfl, ite2 (fun e => ?_) (fun e => ?_)⟩
        · refine ⟨.int f[i].2.1, rfl, x, f[i].2.1, rfl, rfl, _, rfl, ?_⟩
          have : Fm.inX x f[i] = decide (x < f[i].2.1) := by
            unfold Fm.inX
            rw [e, Bool.true_and]
          rw [← this]
          exact hK
        · refine ⟨_, rfl, ?_⟩
          have : Fm.inX x f[i] = false := by
            unfold Fm.inX
            rw [eq_false_of_ne_true' e, Bool.false_and]
          rw [this] at hK
          exact hK
      · refine ite2 (fun e => ?_) (fun e => ?_)
        · exact ⟨u, rfl, q _ _ (fun _ _ h => h) (by rw [stop e]; exact hu2)⟩
        · exact ⟨rfl, _, _, _, rfl, more (eq_false_of_ne_true' e)⟩
    · obtain ⟨rfl, o2, o3, o4, rfl, no⟩ := r
      rw [len, List.take_length] at no
      refine ⟨tt_end hs, Nat.zero_le _, fun t ht => q _ _ (same_new ht) ?_⟩
      rw [Fm.cross_none no]
      exact .tup (.inl (.inl upd_same)) .nil
/-- a span that has y -/
def inY (y : Int) (p : Int × Int) : Bool := decide (p.1 ≤ y) && decide (y < p.2)
def hasSq (f : Form) (x y : Int) : Bool := (Fm.cross x f).any (inY y)
def spHas (K : PySem.W.Frag) : Sp := fun vs H Q _ => ∃ v x y f, vs = [v, .int x, .int y] ∧ Dp K H v (encF f) ∧ (Fm.cross x f).length ≤ 1000 ∧ ∀ H', Same H H' → Q (.bl (hasSq f x y)) H'
theorem ok_has {f fA : Addr} {fd dA : FuncData} {n : Nat} (F : Fun K "has_square" "has_square" sHas f fd)
    (GA : FnOk P w K mg base CX0 n fA dA ["slabs", "x"] (spAt K)) (kA : PySem.W.keepIn K (.ref fA) = true) (bA : L2.Binds K dA ["slabs", "x"] []) (gA : mg "spans_at" = some (.ref fA))
    (ma : mg "any" = none) : FnOk P w K mg base CX0 (n + 1) f fd ["slabs", "x", "y"] (spHas K) := by
  have nd := scHas.nd
  refine F.ok scHas (fun vs H Q E h => ?_) (fun cdv A outer st H vs Q E hr h => ?_)
  · obtain ⟨v, x, y, f, rfl, _⟩ := h
    rfl
  · obtain ⟨v, x, y, f, rfl, hF, sz, q⟩ := h
    refine ⟨_, (pss_one (ps_ret (pe_callB (cr_any rfl) (by rfl) ma (by decide +kernel) (pa_cons (pe_lc (own := [("y1", 3), ("y2", 4)]) (g := gTup K 2 (gCons (gName 3) (gCons (gName 4) gNil))) (tt := tYes) rfl nd (pi_tup (pe_call GA hr (by rfl) gA kA bA .nil pass0 (pa_cons (pv 0) (pa_cons (pv 1) pa_nil)))) (blkOk_by (N := ["slabs", "x", "y", "y1", "y2"]) (sc := defScope sHas) (by decide +kernel)) (fun _ _ _ _ _ => (pg_tup (by rfl) (pgs_cons (pg_name (i := 3) nd rfl (Or.inl rfl)) (pgs_cons (pg_name (i := 4) nd rfl (Or.inl rfl)) pgs_nil)))) (fun _ _ _ _ _ => pts_nil) (fun _ _ _ _ _ => (pe_chain op_le op_lt (pv 3) (pv 2) (pv 4)))) pa_nil)))), ?_⟩
    refine ⟨v, rfl, .int x, rfl, v, x, f, rfl, hF, fun H1 u S1 D1 => ?_⟩
    obtain ⟨a, xs, rfl, hs, ha⟩ := dp_tup D1
    have len : xs.length = (Fm.cross x f).length := (dpAll_len ha).trans (List.length_map ..)
    refine ⟨a, rfl, ⟨_, hs⟩, fun D hD => ?_⟩
    refine wk xs.length (fun i H' => Same H1 H' ∧ H' D = some (.lst ((((Fm.cross x f).take i).map (inY y)).map V.bl))) ⟨same_new hD, upd_same⟩ (fun i H2 hi r => ?_) (fun H2 r => ?_)
    · obtain ⟨S2, hL⟩ := r
      refine tt_go (sqT_same S2 hs) hi (fun z hz => ?_)
      obtain ⟨d, hd1, hd2⟩ := dpAll_get ha hz
      have hif : i < (Fm.cross x f).length := by omega
      have ed : d = encP (Fm.cross x f)[i] := by
        rw [List.getElem?_map, List.getElem?_eq_getElem hif] at hd1
        exact (Option.some.inj hd1).symm
      subst ed
      obtain ⟨t, rfl, ht⟩ := dp_pair (dp_same S2 hd2)
      have grow : ∀ {k : Bool}, inY y (Fm.cross x f)[i] = k → ((((Fm.cross x f).take i).map (inY y)).map V.bl).length < sizeLine ∧ Same H1 (upd H2 D (.lst ((((Fm.cross x f).take i).map (inY y)).map V.bl ++ [.bl k]))) ∧ upd H2 D (.lst ((((Fm.cross x f).take i).map (inY y)).map V.bl ++ [.bl k])) D = some (.lst ((((Fm.cross x f).take (i + 1)).map (inY y)).map V.bl)) := fun {k} e => by
        refine ⟨?_, same_grow S2 hD, ?_⟩
        · rw [List.length_map, List.length_map, List.length_take]
          exact Nat.lt_of_le_of_lt (show _ ≤ 1000 by omega) (by decide)
        · rw [upd_same, List.take_add_one, List.getElem?_eq_getElem hif, List.map_append, List.map_append, ← e]
          rfl
      refine ⟨t, _, rfl, ht, rfl, .int (Fm.cross x f)[i].1, [.int (Fm.cross x f)[i].2], rfl, .int (Fm.cross x f)[i].2, [], rfl, rfl, rfl, ?_⟩
      refine ⟨.int (Fm.cross x f)[i].1, rfl, .int y, rfl, (Fm.cross x f)[i].1, y, rfl, rfl, _, rfl, ite2 (fun e => ?_) (fun e => ?_)⟩
      · refine ⟨.int (Fm.cross x f)[i].2, rfl, y, (Fm.cross x f)[i].2, rfl, rfl, _, hL, grow ?_⟩
        unfold inY
        rw [e, Bool.true_and]
      · refine ⟨_, hL, grow ?_⟩
        unfold inY
        rw [eq_false_of_ne_true' e, Bool.false_and]
    · obtain ⟨S2, hL⟩ := r
      rw [len, List.take_length] at hL
      refine ⟨tt_end (sqT_same S2 hs), D, _, rfl, .inl (.inl hL), ?_⟩
      have := q H2 (fun b u e => S2 b u (S1 b u e))
      have e2 : hasSq f x y = ((Fm.cross x f).map (inY y)).any id := by
        rw [List.any_map]
        rfl
      rw [e2] at this
      exact this
end
end Vf

set_option Elab.async false
set_option linter.all false
set_option maxRecDepth 100000
/-! Operators, truth and reading off the class for instances of a class of the text. -/
namespace Vf
open PySem PySem.Spec PyProof.Rows L2 PySem.W

/-- an own method of special name -/
structure Own (K : Frag) (C : Addr) (name : PySem.Str) (f : Addr) : Prop where
  at_ : findIn K (.ref C) name = some (some (.ref f))
  fn : isFn K (.ref f) = true
section
variable {X : Cx} {CX : CXT} {n : Nat} {f g C p : Addr} {sp : Sp} {E : XK} {pins : List (Addr × Obj)} {σ : L2.St} {H : Hp} {s : Shared}
theorem run_at {A : Around} {Q : VK} {us : List Value} {vs : List V} (F : FnR X.prog X.w X.K X.mg X.base CX n f sp) (sb : Sub X n A) (hx : Passes CX X E) (I : Inv X pins σ H s) (r : Vals vs us) (h : sp vs H Q E) :
    wpAny (model X.prog X.w) A (call (.ref f) us) (EP X pins σ Q) X.xe s := by
  have e0 : Env0 X.prog X.w X.K X.mg X.base A X.stack s H := by
    have e := I.env0
    exact ⟨by rw [sb.fr]; exact e.frames, e.mod, e.bs, e.bsz, e.funs, e.frf, e.hok, e.bare⟩
  refine wpAny_call (codeAny_mono (F A X.stack s H us vs Q E sb.room e0 r h) fun z s' hq => ?_)
  cases z with
  | error e => exact hx pins σ H s e s' I hq
  | ok fl =>
    cases fl with
    | ret u => exact I.after hq
    | next => exact False.elim hq
    | brk => exact False.elim hq
    | cont => exact False.elim hq
theorem relV_ni : ∀ {x : V}, ¬ RelV x .notImplemented
  | .non, h => nomatch h
  | .bl _, h => nomatch h
  | .int _, ⟨_, h⟩ => nomatch h
  | .str _, ⟨_, h⟩ => nomatch h
  | .byt _, ⟨_, h⟩ => nomatch h
  | .flt _, ⟨_, h⟩ => nomatch h
  | .ref _, h => nomatch h
  | .ty _, h => nomatch h
theorem back_of {Q : VK} {z : Value} {s' : Shared} (h : EP X pins σ Q z s') : W.CmpBack (EP X pins σ Q) z s' := by
  cases z <;> first | exact h | (obtain ⟨_, _, _, r, _⟩ := h; exact absurd r relV_ni)
/-- an object of the class at C -/
def Ins (H : Hp) (C a : Addr) : Prop := ∃ dx fs, H a = some (.ins C dx fs)
theorem Ins.same {H H' : Hp} {C a : Addr} (s : ∀ b u, H b = some u → H' b = some u) (h : Ins H C a) : Ins H' C a := let ⟨d, fs, e⟩ := h; ⟨d, fs, s _ _ e⟩
theorem ins_at {a : Addr} (I : Inv X pins σ H s) (h : Ins H C a) : ∃ ox od, InstAt s.heap a ox C od ∧ ox.data = .plain := StX.insC_at I (.inr h)
/-- a | b and the like, both of the class at C -/
def rBinO (C : Addr) (sp : Sp) (E : XK) : R2 := fun x y H Q => ∃ a b, x = .ref a ∧ y = .ref b ∧ Ins H C a ∧ Ins H C b ∧ sp [.ref a, .ref b] H Q E
theorem op_binO {op : Operator} (c : Own X.K C (PySem.dunder op.info.2) f) (sf : selfFirst X.K C = true) (F : FnR X.prog X.w X.K X.mg X.base CX n f sp) (hr : Room n X.A) (hx : Passes CX X E) : OpR X (binaryOp op) (rBinO C sp E) := by
  intro pins s σ H x y v u Q I rx ry h
  obtain ⟨a, b, rfl, rfl, ia, ib, q⟩ := h
  obtain rfl : v = Value.ref a := rx
  obtain rfl : u = Value.ref b := ry
  obtain ⟨ox, od, J, _⟩ := ins_at I ia
  obtain ⟨ox', od', J', _⟩ := ins_at I ib
  obtain ⟨m, fr⟩ := I.fr
  refine binop_K fr I.ok.mod.kin J J'.type sf c.at_ c.fn (thn (run_at (us := [.ref a, .ref b]) (vs := [.ref a, .ref b]) F ⟨hr, rfl⟩ hx I (.cons rfl (.cons rfl .nil)) q) ?_)
  exact fun z s' hz => back_of hz
/-- a in b, b of the class at C -/
def rInO (C : Addr) (neg : Bool) (sp : Sp) (E : XK) : R2 := fun x y H Q => ∃ b, y = .ref b ∧ Ins H C b ∧ sp [.ref b, x] H (fun v H' => ∃ k, v = .bl k ∧ Q (.bl (k != neg)) H') E
theorem op_inO (c : Own X.K C "__contains__" f) (F : FnR X.prog X.w X.K X.mg X.base CX n f sp) (hr : Room n X.A) (hx : Passes CX X E) : OpR X (compareOp .In) (rInO C false sp E) := by
  intro pins s σ H x y v u Q I rx ry h
  obtain ⟨b, rfl, ib, q⟩ := h
  obtain rfl : u = Value.ref b := ry
  obtain ⟨ox, od, J, _⟩ := ins_at I ib
  obtain ⟨m, fr⟩ := I.fr
  refine in_K fr I.ok.mod.kin J c.at_ c.fn (thn (run_at (us := [.ref b, v]) (vs := [.ref b, x]) F ⟨hr, rfl⟩ hx I (.cons rfl (.cons rx .nil)) q) ?_)
  intro z s' hz
  obtain ⟨zv, H', I', rz, k, rfl, qz⟩ := hz
  obtain rfl : z = .bool k := rz
  rw [Bool.bne_false] at qz
  exact wpAny_truthy_bool ⟨.bl k, H', I', rfl, qz⟩
/-- ~a -/
def rInvO (C : Addr) (sp : Sp) (E : XK) : V → Hp → VK → Prop := fun x H Q => ∃ a, x = .ref a ∧ Ins H C a ∧ sp [.ref a] H Q E
theorem un_invO (c : Own X.K C "__invert__" f) (F : FnR X.prog X.w X.K X.mg X.base CX n f sp) (hr : Room n X.A) (hx : Passes CX X E) : UnR X (unaryOp .Invert) (rInvO C sp E) := by
  intro pins s σ H x v Q I rx h
  obtain ⟨a, rfl, ia, q⟩ := h
  obtain rfl : v = Value.ref a := rx
  obtain ⟨ox, od, J, _⟩ := ins_at I ia
  obtain ⟨m, fr⟩ := I.fr
  exact ksp_inv fr I.ok.mod.kin J c.at_ c.fn (run_at (us := [.ref a]) (vs := [.ref a]) F ⟨hr, rfl⟩ hx I (.cons rfl .nil) q)
/-- truth of an object by its own __bool__ -/
def rTruO (C : Addr) (sp : Sp) (E : XK) : V → Hp → (Bool → Hp → Prop) → Prop := fun x H Q => ∃ a, x = .ref a ∧ Ins H C a ∧ sp [.ref a] H (fun v H' => ∃ k, v = .bl k ∧ Q k H') E
theorem tru_O (c : Own X.K C "__bool__" f) (F : FnR X.prog X.w X.K X.mg X.base CX n f sp) (hr : Room n X.A) (hx : Passes CX X E) : TruR X (rTruO C sp E) := by
  intro pins s σ H x v Q I rx h
  obtain ⟨a, rfl, ia, q⟩ := h
  obtain rfl : v = Value.ref a := rx
  obtain ⟨ox, od, J, _⟩ := ins_at I ia
  obtain ⟨m, fr⟩ := I.fr
  have go : wpAny (model X.prog X.w) X.A (call (.ref f) [.ref a]) (fun v s' => ∃ k H', v = .bool k ∧ Inv X pins σ H' s' ∧ Q k H') X.xe s := by
    refine thn (run_at (us := [.ref a]) (vs := [.ref a]) F ⟨hr, rfl⟩ hx I (.cons rfl .nil) q) ?_
    intro z s' hz
    obtain ⟨zv, H', I', rz, k, rfl, qz⟩ := hz
    exact ⟨k, H', rz, I', qz⟩
  unfold truthy
  have two : wpAny (model X.prog X.w) X.A (callSpecial? (.ref a) (PySem.Str.ofString "__bool__")) (fun r s' => ∃ k H', r = some (.bool k) ∧ Inv X pins σ H' s' ∧ Q k H') X.xe s :=
    special_fn I.kIn J c.at_ (beq_iff_eq.mp c.fn) (thn go fun z s' ⟨k, H', e, I', q⟩ => ⟨k, H', by rw [e], I', q⟩)
  refine wpAny_bind (m := callSpecial? (.ref a) (PySem.Str.ofString "__bool__")) (thn two ?_)
  intro r s' hz
  obtain ⟨k, H', rfl, I', q⟩ := hz
  exact wpAny_pure ⟨H', I', q⟩
/-- a == b, both of the class at C, by its own __eq__ -/
def rEqO (C : Addr) (neg : Bool) (sp : Sp) (E : XK) : R2 := fun x y H Q => ∃ a b, x = .ref a ∧ y = .ref b ∧ Ins H C a ∧ Ins H C b ∧ sp [.ref a, .ref b] H (fun v H' => ∃ k, v = .bl k ∧ Q (.bl (k != neg)) H') E
theorem op_eqO (c : Own X.K C "__eq__" f) (F : FnR X.prog X.w X.K X.mg X.base CX n f sp) (hr : Room n X.A) (hx : Passes CX X E) : OpR X (compareOp .Eq) (rEqO C false sp E) := by
  intro pins s σ H x y v u Q I rx ry h
  obtain ⟨a, b, rfl, rfl, ia, ib, q⟩ := h
  obtain rfl : v = Value.ref a := rx
  obtain rfl : u = Value.ref b := ry
  obtain ⟨ox, od, J, _⟩ := ins_at I ia
  obtain ⟨ox', od', J', _⟩ := ins_at I ib
  obtain ⟨m, fr⟩ := I.fr
  show wpAny _ _ (richCompare .Eq (.ref a) (.ref b)) _ _ _
  refine cmp_K (op := .Eq) (tb := .ref C) hr.units0 fr I.ok.mod.kin J J'.type (by simp [notFirst]) c.at_ c.fn (thn (run_at (us := [.ref a, .ref b]) (vs := [.ref a, .ref b]) F ⟨hr, rfl⟩ hx I (.cons rfl (.cons rfl .nil)) q) ?_)
  intro z s' hz
  obtain ⟨zv, H', I', rz, k, rfl, qz⟩ := hz
  obtain rfl : z = .bool k := rz
  rw [Bool.bne_false] at qz
  exact (⟨.bl k, H', I', rfl, qz⟩ : EP X pins σ Q (.bool k) s')
theorem ifBound_B {M : Model} {A : Around} {E : Value → Shared → Prop} {s : Shared} {K : Frag} {x C : Addr} {ox : Obj} {od : Option Obj} {name : PySem.Str} {id : String} {args : List Value} {Q : Option Value → Shared → Prop} (X : K.In s.heap) (I : InstAt s.heap x ox C od) (hs : findIn K (.ref C) name = some (some (.builtin id)))
    (hb : ∀ self, bindSpecial (.builtin id) self = pure (.builtin id, [self])) (h : wpAny M A (call (.builtin id) (.ref x :: args)) (fun v => Q (some v)) E s) : wpAny M A (callSpecialIfBound? (.ref x) name args) Q E s := by
  simp only [callSpecialIfBound?, bindSpecialIfBound?]
  refine wpAny_holding (wpAny_bind (wpAny_bind (wpAny_bind (I.type.here ((looks_findIn X hs).here ?_)))))
  refine wpAny_bind (wpAny_askSetting (wpAny_ite ?_))
  have fin : wpAny M A (call (.builtin id) ([.ref x] ++ args) >>= fun v => pure (some v)) Q E s := wpAny_bind (wpAny_mono h (fun v s' h' => wpAny_pure h') fun _ _ h' => h')
  split
  · exact wpAny_bind ((Looks.of_pure (hb _)).here (wpAny_pure (by exact fin)))
  · exact wpAny_tryCatch (wpAny_bind ((Looks.of_pure (hb _)).here (wpAny_pure (by exact fin))))
/-- != where the class has its own __eq__ and no __ne__ -/
structure NoNe (K : Frag) (C : Addr) : Prop where
  ne : findIn K (.ref C) "__ne__" = some (some (.builtin "object.__ne__"))
  mro : mroIn K C (.type "object") = some true
open Builtin in
theorem ne_entry {prog : Program} {w : World} {A : Around} {E : Value → Shared → Prop} {s : Shared} {K : Frag} {x y C f : Addr} {ox : Obj} {od : Option Obj} {Q : Fin → Shared → Prop} (hu : A.units < cLine) (Z : K.In s.heap) (I : InstAt s.heap x ox C od) (c : Own K C "__eq__" f)
    (h : wpAny (model prog w) A (call (.ref f) [.ref x, .ref y]) (fun v s' => ∃ b, v = .bool b ∧ Q (.done (.ret (.bool (!b)))) s') E s) : wpAny (model prog w) A (Builtin.«object.__ne__» ⟨[.ref x, .ref y], []⟩) Q E s := by
  unfold Builtin.«object.__ne__»
  refine wpAny_bind (m := slotArgs "__ne__" 1 _) (wpAny_pure ?_)
  refine wpAny_bind (m := cRoomFor _ _) (wpAny_cRoomFor hu ?_)
  refine wpAny_bind (m := callSpecialIfBound? (.ref x) (PySem.Str.ofString "__eq__") _) (ifBound_K Z I c.at_ c.fn (thn h ?_))
  rintro v s' ⟨b, rfl, q⟩
  exact wpAny_bind (wpAny_truthy_bool (wpAny_pure q))
theorem op_neO (c : Own X.K C "__eq__" f) (d : NoNe X.K C) (F : FnR X.prog X.w X.K X.mg X.base CX n f sp) (hr : Room (n + 1) X.A) (hx : Passes CX X E) : OpR X (compareOp .NotEq) (rEqO C true sp E) := by
  intro pins s σ H x y v u Q I rx ry h
  obtain ⟨a, b, rfl, rfl, ia, ib, q⟩ := h
  obtain rfl : v = Value.ref a := rx
  obtain rfl : u = Value.ref b := ry
  obtain ⟨ox, od, J, _⟩ := ins_at I ia
  obtain ⟨ox', od', J', _⟩ := ins_at I ib
  show wpAny _ _ (richCompare .NotEq (.ref a) (.ref b)) _ _ _
  unfold richCompare
  simp only [oneThing_ref]
  refine wpAny_holding (wpAny_bind (wpAny_cRoomFor hr.units0 ?_))
  refine wpAny_bind (J.type.here (wpAny_bind (J'.type.here ?_)))
  rw [show (Value.ref C != Value.ref C) = false from by simp]
  simp only [Bool.false_eq_true, if_false]
  refine wpAny_bind (wpAny_pure ?_)
  simp only [Bool.false_eq_true, if_false]
  have go : wpAny (model X.prog X.w) X.A (tryCompare (.ref a) "__ne__" (.ref b)) (fun r s' => ∃ z, r = some z ∧ EP X pins σ Q z s') X.xe s := by
    unfold tryCompare
    refine wpAny_bind (ifBound_B (id := "object.__ne__") I.kIn J d.ne PySem.F.slot_object_ne.bind ?_)
    refine wpAny_call (codeAny_call_builtin PySem.F.slot_object_ne.plain PySem.F.cmpEntry_ne (check_slot (i := "object.__ne__") (owner := "object") (n := "__ne__") (by decide +kernel) (by decide +kernel) (J.type.andThen (looks_mroIn I.kIn d.mro)) (PySem.F.cmpArgs_ne _ _) ?_))
    refine ne_entry hr.in1.units0 I.kIn J c (thn (run_at (us := [.ref a, .ref b]) (vs := [.ref a, .ref b]) F ⟨hr.in1, rfl⟩ hx I (.cons rfl (.cons rfl .nil)) q) ?_)
    intro z s' hz
    obtain ⟨zv, H', I', rz, k, rfl, qz⟩ := hz
    obtain rfl : z = .bool k := rz
    refine ⟨k, rfl, ?_⟩
    have e : (k != true) = !k := by cases k <;> rfl
    rw [e] at qz
    exact wpAny_pure ⟨.bool (!k), rfl, .bl (!k), H', I', rfl, qz⟩
  refine wpAny_bind (thn go ?_)
  rintro r s' ⟨z, rfl, q⟩
  exact wpAny_pure q
/-- C.m, a staticmethod: its record at p, its def at g -/
structure CSta (K : Frag) (C : Addr) (mc : Value) (m : PySem.Str) (p g : Addr) : Prop where
  at_ : findCls K (.ref C) mc m = some (.get (.builtin "staticmethod.__get__") (.ref p) .none (.ref C))
  rc : ∃ rest, recIn K p "staticmethod" = some (.ref g :: rest)
  kp : keepIn K (.ref g) = true
theorem getmethsm_ok {mc : Value} {m : PySem.Str} {pl : Sem Bool} {A : Around} {E' : Value → Shared → Prop} {Q : Value × List Value → Shared → Prop} (I : Inv X pins σ H s) (r : ClX.CRead X.K C mc) (k : CSta X.K C mc m p g)
    (h : ∀ s', Inv X pins σ H s' → Q (.ref g, []) s') : wpAny (model X.prog X.w) A (getMethod (.ref C) m pl) Q E' s := by
  obtain ⟨rest, hp⟩ := k.rc
  refine method_cls I.kIn r.ga (cls_bind I.kIn r.rd k.at_ ?_)
  exact wpAny_call (sm_get (s := { s with toks := s.toks + 1 }) I.kIn hp (handed_on rfl (h _ (I.tok _))))
/-- C.m(), a staticmethod -/
def tSta (C : Addr) (sp : Sp) (E : XK) (ta : TE) (t : TA) : TE := fun σ H Q => ta σ H fun x H1 => x = .ref C ∧ t σ H1 fun vs H2 => sp vs H2 Q E
theorem pe_sta0 {o : Expr} {m : PySem.Str} {mc : Value} {ta : TE} {pos apos : Pos} {pl : Sem Bool} (he : PE X o ta) (r : ClX.CRead X.K C mc) (c : CSta X.K C mc m p g) (F : FnR X.prog X.w X.K X.mg X.base CX n g sp) (hr : Room n X.A) (hx : Passes CX X E)
    (ht : eval (.Call (.Attribute o m apos) [] [] pos) X.env = (do
      let ov ← eval o X.env
      standAt apos.atName
      let (f, first) ← holding [ov] (getMethod ov m pl)
      callWith pos f first (backTo pos (starEach [] X.env)) (backToKw pos (keywordEach [] X.env))) := by rfl) :
    PE X (.Call (.Attribute o m apos) [] [] pos) (tSta C sp E ta tNil) := by
  refine ⟨fun pins s σ H Q I h => ?_⟩
  refine methodCall_KW (pl := pl) (thn (he.run pins s σ H _ I h) fun u s1 ⟨x, H1, I1, rx, ex, q⟩ => ?_) ht
  subst ex
  obtain rfl : u = Value.ref C := rx
  refine getmethsm_ok I1 r c fun s2 I2 => ?_
  exact callWith_K0 (first := []) I2.kIn c.kp (wpAny_call (run_fnR (us := []) (vs := []) F hr hx I2 .nil q))
/-- C.m(), a classmethod -/
theorem pe_cmeth0 {o : Expr} {m : PySem.Str} {mc : Value} {ta : TE} {pos apos : Pos} {pl : Sem Bool} (he : PE X o ta) (r : ClX.CRead X.K C mc) (c : ClX.CMet X.K C mc m p g) (F : FnR X.prog X.w X.K X.mg X.base CX n g sp) (hr : Room n X.A) (hx : Passes CX X E)
    (ht : eval (.Call (.Attribute o m apos) [] [] pos) X.env = (do
      let ov ← eval o X.env
      standAt apos.atName
      let (f, first) ← holding [ov] (getMethod ov m pl)
      callWith pos f first (backTo pos (starEach [] X.env)) (backToKw pos (keywordEach [] X.env))) := by rfl) :
    PE X (.Call (.Attribute o m apos) [] [] pos) (ClX.tCMeth C sp E ta tNil) := by
  refine ⟨fun pins s σ H Q I h => ?_⟩
  refine methodCall_KW (pl := pl) (thn (he.run pins s σ H _ I h) fun u s1 ⟨x, H1, I1, rx, ex, q⟩ => ?_) ht
  subst ex
  obtain rfl : u = Value.ref C := rx
  refine ClX.getmethcm_ok I1 r c fun s2 I2 => ?_
  exact callWith_M0 (K := X.K) (first := []) ⟨ClX.pin_at I2, I2.kIn⟩ c.fi (ClX.run_cm (us := []) (vs := []) F hr hx I2 .nil q)
end
end Vf

set_option Elab.async false
set_option linter.all false
set_option maxRecDepth 100000
/-! The class Region: what its objects are; making, the static ones, combining. -/
namespace Vf
open PySem PySem.Spec PyProof.Rows L2
open C8 (pss_cut tCut)
open Fm (Spans Form Slab Keep)

theorem nsb : ¬ (("_slabs" : Str) = "_is_bounded") := by decide +kernel
theorem nbs : ¬ (("_is_bounded" : Str) = "_slabs") := by decide +kernel
/-- the fields of a region -/
def rf (v : V) (b : Bool) : List (Str × V) := putF "_is_bounded" (.bl b) (putF "_slabs" v [])
theorem rf_eq (v : V) (b : Bool) : rf v b = ([("_slabs", v), ("_is_bounded", V.bl b)] : List (Str × V)) := by
  show (if ("_slabs" : Str) = "_is_bounded" then [(("_slabs" : Str), V.bl b)] else (("_slabs" : Str), v) :: putF "_is_bounded" (V.bl b) []) = ([("_slabs", v), ("_is_bounded", V.bl b)] : List (Str × V))
  rw [if_neg nsb]
  all_goals rfl
theorem rf_s (v : V) (b : Bool) : (rf v b).lookup ("_slabs" : Str) = some v := by
  unfold rf
  rw [lookup_putF, if_neg nsb, lookup_putF, if_pos rfl]
theorem rf_b (v : V) (b : Bool) : (rf v b).lookup ("_is_bounded" : Str) = some (.bl b) := by
  unfold rf
  rw [lookup_putF, if_pos rfl]
/-- the region of form f, or its complement, stands at a -/
def Rg (K : PySem.W.Frag) (C a : Addr) (H : Hp) (f : Form) (b : Bool) : Prop := ∃ dx v, H a = some (.ins C dx (rf v b)) ∧ Dp K H v (encF f)
theorem Rg.same {K : PySem.W.Frag} {C a : Addr} {H H' : Hp} {f : Form} {b : Bool} (s : Same H H') (h : Rg K C a H f b) : Rg K C a H' f b := by
  obtain ⟨dx, v, e, d⟩ := h
  exact ⟨dx, v, s _ _ e, dp_same s d⟩
theorem Rg.ins {K : PySem.W.Frag} {C a : Addr} {H : Hp} {f : Form} {b : Bool} (h : Rg K C a H f b) : Ins H C a := by
  obtain ⟨dx, v, e, d⟩ := h
  exact ⟨dx, _, e⟩
/-- what is asked of the class -/
structure RTxt (K : PySem.W.Frag) (mg : Str → Option Value) (C : Addr) : Prop where
  cl : Cls K C
  nS : NoAttr K C "_slabs"
  nB : NoAttr K C "_is_bounded"
  mgC : mg "Region" = some (.ref C)
section
variable {P : Program} {w : World} {K : PySem.W.Frag} {mg : Str → Option Value} {base : Heap}
/-! ### __init__ -/
theorem scInit : FnScope ["self", "slabs", "is_bounded"] ["self", "slabs", "is_bounded"] (defScope sInit) := ⟨rfl, rfl, rfl, by decide +kernel, rfl, by decide +kernel, by decide +kernel⟩
def spInit (K : PySem.W.Frag) (C : Addr) : Sp := fun vs H Q _ => ∃ (H0 : Hp) (p dx : Addr) (v : V) (b : Bool) (f : Form), vs = [.ref p, v, .bl b] ∧ Same H0 H ∧ H0 p = none ∧ H p = some (.ins C dx []) ∧ Dp K H0 v (encF f) ∧ ∀ H', Same H0 H' → Rg K C p H' f b → Q .non H'
theorem ok_init {f C : Addr} {fd : FuncData} {n : Nat} (F : Fun K "__init__" "Region.__init__" sInit f fd) (T : RTxt K mg C) : FnOk P w K mg base CX0 (n + 1) f fd ["self", "slabs", "is_bounded"] (spInit K C) := by
  refine F.ok scInit (fun vs H Q E h => ?_) (fun cdv A outer st H vs Q E hr h => ?_)
  · obtain ⟨H0, p, dx, v, b, f, rfl, _⟩ := h
    rfl
  · obtain ⟨H0, p, dx, v, b, f, rfl, s0, p0, hp, hd, k⟩ := h
    refine ⟨_, pss_cons (ps_fld (pv 0) (pv 1) rfl) (pss_one (ps_fld (pv 0) (pv 2) rfl)), ?_⟩
    refine ⟨v, rfl, _, rfl, p, C, dx, [], rfl, hp, T.cl, T.nS, (by show 0 < 1000; decide), .bl b, rfl, _, rfl, p, C, dx, _, rfl, upd_same, T.cl, T.nB, (by show 1 < 1000; decide), ?_⟩
    have S : Same H0 (upd (upd H p (.ins C dx (putF "_slabs" v []))) p (.ins C dx (putF "_is_bounded" (.bl b) (putF "_slabs" v [])))) := fun c o e => by
      have n : c ≠ p := ne_of_none e p0
      rw [upd_ne n, upd_ne n]
      exact s0 _ _ e
    exact k _ S ⟨dx, v, upd_same, dp_same S hd⟩
/-- what making one asks -/
theorem mk_rg {C : Addr} {H : Hp} {v : V} {b : Bool} {f : Form} {Q : VK} {E : XK} (hd : Dp K H v (encF f)) (q : ∀ H' x, Same H H' → Rg K C x H' f b → Q (.ref x) H') :
    ∀ x dx, H x = none → H dx = none → dx ≠ x → spInit K C (.ref x :: ([v, .bl b] ++ [])) (upd (upd H dx (.own x)) x (.ins C dx [])) (fun v H2 => v = .non ∧ Q (.ref x) H2) E := fun x dx hx hdx n =>
  ⟨H, x, dx, v, b, f, rfl, (same_new hdx).trans (same_new (by rw [upd_ne n.symm]; exact hx)), hx, upd_same, hd, fun H' S R => ⟨rfl, q H' x S R⟩⟩
/-! ### empty, everything -/
theorem scEmpty : FnScope [] [] (defScope sEmpty) := ⟨rfl, rfl, rfl, by decide +kernel, rfl, by decide +kernel, by decide +kernel⟩
theorem scEvery : FnScope [] [] (defScope sEvery) := ⟨rfl, rfl, rfl, by decide +kernel, rfl, by decide +kernel, by decide +kernel⟩
def spConst (K : PySem.W.Frag) (C : Addr) (b : Bool) : Sp := fun vs H Q _ => vs = [] ∧ ∀ H' x, Same H H' → Rg K C x H' [] b → Q (.ref x) H'
theorem ok_empty {f C fI : Addr} {fd dI : FuncData} {n : Nat} (F : Fun K "empty" "Region.empty" sEmpty f fd) (T : RTxt K mg C) (M : L2.Mk K C fI) (GI : FnOk P w K mg base CX0 n fI dI ["self", "slabs", "is_bounded"] (spInit K C)) (bI : Binds K dI ["self", "slabs", "is_bounded"] []) :
    FnOk P w K mg base CX0 (n + 2) f fd [] (spConst K C true) := by
  refine F.ok scEmpty (fun vs H Q E h => ?_) (fun cdv A outer st H vs Q E hr h => ?_)
  · obtain ⟨rfl, _⟩ := h
    rfl
  · obtain ⟨rfl, q⟩ := h
    refine ⟨_, (pss_one (ps_ret (pe_make M GI hr (by rfl) T.mgC bI .nil pass0 (pa_cons (pe_tup pa_nil) (pa_cons pe_bl pa_nil))))), ?_⟩
    refine ⟨Nat.zero_le _, fun p hp => ?_⟩
    have S := same_new (o := .tup []) hp
    exact mk_rg (f := []) (.tup sqT_new .nil) fun H' x S' R => q H' x (S.trans S') R
theorem ok_every {f C fI : Addr} {fd dI : FuncData} {n : Nat} (F : Fun K "everything" "Region.everything" sEvery f fd) (T : RTxt K mg C) (M : L2.Mk K C fI) (GI : FnOk P w K mg base CX0 n fI dI ["self", "slabs", "is_bounded"] (spInit K C)) (bI : Binds K dI ["self", "slabs", "is_bounded"] []) :
    FnOk P w K mg base CX0 (n + 2) f fd [] (spConst K C false) := by
  refine F.ok scEvery (fun vs H Q E h => ?_) (fun cdv A outer st H vs Q E hr h => ?_)
  · obtain ⟨rfl, _⟩ := h
    rfl
  · obtain ⟨rfl, q⟩ := h
    refine ⟨_, (pss_one (ps_ret (pe_make M GI hr (by rfl) T.mgC bI .nil pass0 (pa_cons (pe_tup pa_nil) (pa_cons pe_bl pa_nil))))), ?_⟩
    refine ⟨Nat.zero_le _, fun p hp => ?_⟩
    have S := same_new (o := .tup []) hp
    exact mk_rg (f := []) (.tup sqT_new .nil) fun H' x S' R => q H' x (S.trans S') R
end
end Vf

set_option Elab.async false
set_option linter.all false
set_option maxRecDepth 100000
/-! Reading a region; combining two. -/
namespace Vf
open PySem PySem.Spec PyProof.Rows L2
open C8 (pss_cut tCut)
open Fm (Spans Form Slab Keep)
/-- a statement that is never come to -/
theorem ps_no {X : Cx} {st : Stmt} : PS X st (fun _ _ _ => False) := ⟨fun _ _ _ _ _ _ h => h.elim⟩
/-- which class an object is of -/
structure RIs (K : PySem.W.Frag) (C : Addr) : Prop where
  cl : Cls K C
  ha : PySem.W.findIn K (.ref C) "__class__" = some (some (.builtin "object.__class__"))
  hn : PySem.W.specialIn K (.builtin "object.__class__") "__get__" = some (some (.builtin "getset_descriptor.__get__"))
  htk : PySem.W.takesIn K (.builtin "object.__class__") = some true
  hm : PySem.W.mroIn K C (.type "object") = some true
theorem Rg.ty {K : PySem.W.Frag} {C a : Addr} {H : Hp} {f : Form} {b : Bool} (h : Rg K C a H f b) (i : RIs K C) : TyX K H (.ref a) (.ref C) := by
  obtain ⟨dx, v, e, d⟩ := h
  exact .base (.ins e i.cl i.ha i.hn i.htk i.hm)
theorem kit_own {K : PySem.W.Frag} {C : Addr} : PySem.W.kitOne K (.ref C) (.ref C) = some true := by
  unfold PySem.W.kitOne
  rw [if_pos (by simp)]
section
variable {P : Program} {w : World} {K : PySem.W.Frag} {mg : Str → Option Value} {base : Heap}
/-- list(x) of a list or tuple -/
def rLof (K : PySem.W.Frag) : List V → Hp → VK → Prop := fun xs H Q => ∃ p ys, xs = [.ref p] ∧ (SqL K H p ys ∨ SqT K H p ys) ∧ ∀ l, H l = none → Q (.ref l) (upd H l (.lst ys))
/-! ### is_bounded, slabs -/
theorem scIsB : FnScope ["self"] ["self"] (defScope sIsB) := ⟨rfl, rfl, rfl, by decide +kernel, rfl, by decide +kernel, by decide +kernel⟩
def spIsB (K : PySem.W.Frag) (C : Addr) : Sp := fun vs H Q _ => ∃ a f b, vs = [.ref a] ∧ Rg K C a H f b ∧ Q (.bl b) H
theorem ok_isB {f C : Addr} {fd : FuncData} {n : Nat} (F : Fun K "is_bounded" "Region.is_bounded" sIsB f fd) (T : RTxt K mg C) : FnOk P w K mg base CX0 (n + 1) f fd ["self"] (spIsB K C) := by
  refine F.ok scIsB (fun vs H Q E h => ?_) (fun cdv A outer st H vs Q E hr h => ?_)
  · obtain ⟨a, f, b, rfl, _⟩ := h
    rfl
  · obtain ⟨a, f, b, rfl, ⟨dx, v, e, d⟩, q⟩ := h
    exact ⟨_, (pss_one (ps_ret (pe_fld (pv 0) rfl))), .ref a, rfl, a, C, dx, _, _, rfl, e, T.cl, T.nB, rf_b _ _, q⟩
/-- the lists that slabs hands on: D and below it all new -/
def SlA (K : PySem.W.Frag) (H0 H : Hp) (D : Addr) : List V → Form → Prop := Paired (fun v p => ∃ t l us, v = .ref t ∧ H0 t = none ∧ H0 l = none ∧ l ≠ D ∧ H t = some (.tup [.int p.1, .int p.2.1, .ref l]) ∧ H l = some (.lst us) ∧ DpAll K H0 us (p.2.2.map encP))
theorem SlA.same {K : PySem.W.Frag} {H0 H H' : Hp} {D : Addr} (s : Same H H') : ∀ {vs : List V} {f : Form}, SlA K H0 H D vs f → SlA K H0 H' D vs f
  | _, _, .nil => .nil
  | _, _, .cons ⟨t, l, us, e, h1, h2, h3, h4, h5, h6⟩ r => .cons ⟨t, l, us, e, h1, h2, h3, s _ _ h4, s _ _ h5, h6⟩ (SlA.same s r)
theorem SlA.put {K : PySem.W.Frag} {H0 H : Hp} {D : Addr} {ws zs : List V} (hD : H D = some (.lst ws)) : ∀ {vs : List V} {f : Form}, SlA K H0 H D vs f → SlA K H0 (upd H D (.lst zs)) D vs f
  | _, _, .nil => .nil
  | _, _, .cons ⟨t, l, us, e, h1, h2, h3, h4, h5, h6⟩ r => .cons ⟨t, l, us, e, h1, h2, h3, by rw [upd_ne (ne_of h4 hD (by simp))]; exact h4, by rw [upd_ne h3]; exact h5, h6⟩ (SlA.put hD r)
theorem scSlabs : FnScope ["self", "x1", "x2", "spans"] ["self"] (defScope sSlabs) := ⟨rfl, rfl, rfl, by decide +kernel, rfl, by decide +kernel, by decide +kernel⟩
def spSlabs (K : PySem.W.Frag) (C : Addr) : Sp := fun vs H Q _ => ∃ a f b, vs = [.ref a] ∧ Rg K C a H f b ∧ f.length ≤ 1000 ∧ ∀ H' D ws, Same H H' → H D = none → H' D = some (.lst ws) → SlA K H H' D ws f → Q (.ref D) H'
theorem ok_slabs {f C : Addr} {fd : FuncData} {n : Nat} (F : Fun K "slabs" "Region.slabs" sSlabs f fd) (T : RTxt K mg C) (ml : mg "list" = none) : FnOk P w K mg base CX0 (n + 1) f fd ["self"] (spSlabs K C) := by
  have nd := scSlabs.nd
  refine F.ok scSlabs (fun vs H Q E h => ?_) (fun cdv A outer st H vs Q E hr h => ?_)
  · obtain ⟨a, f, b, rfl, _⟩ := h
    rfl
  · obtain ⟨a, f, b, rfl, ⟨dx, v, e, d⟩, sz, q⟩ := h
    refine ⟨_, (pss_one (ps_ret (pe_lc (own := [("x1", 1), ("x2", 2), ("spans", 3)]) (g := (gTup K 3 (gCons (gName 1) (gCons (gName 2) (gCons (gName 3) gNil))))) (tt := tYes) rfl nd (pi_tup (pe_fld (pv 0) rfl)) (blkOk_by (N := ["self", "x1", "x2", "spans"]) (sc := defScope sSlabs) (by decide +kernel)) (fun _ _ _ _ _ => (pg_tup (by rfl) (pgs_cons (pg_name (i := 1) nd rfl (Or.inl rfl)) (pgs_cons (pg_name (i := 2) nd rfl (Or.inl rfl)) (pgs_cons (pg_name (i := 3) nd rfl (Or.inl rfl)) pgs_nil))))) (fun _ _ _ _ _ => pts_nil) (fun _ _ _ _ _ => (pe_tup (pa_cons (pv 1) (pa_cons (pv 2) (pa_cons (pe_callTy (T := "list") (r := rLof K) call_list_of (by rfl) ml (by decide +kernel) (pa_cons (pv 3) pa_nil)) pa_nil)))))))), ?_⟩
    obtain ⟨A0, xs, rfl, hs, ha⟩ := dp_tup d
    have len : xs.length = f.length := (dpAll_len ha).trans (List.length_map ..)
    refine ⟨.ref a, rfl, a, C, dx, _, .ref A0, rfl, e, T.cl, T.nS, rf_s _ _, A0, rfl, ⟨_, hs⟩, fun D hD => ?_⟩
    refine wk xs.length (fun i H' => Same H H' ∧ ∃ ws, H' D = some (.lst ws) ∧ SlA K H H' D ws (f.take i)) ⟨same_new hD, [], upd_same, .nil⟩ (fun i H2 hi r => ?_) (fun H2 r => ?_)
    · obtain ⟨S2, ws, hL, sl⟩ := r
      refine tt_go (sqT_same S2 hs) hi (fun z hz => ?_)
      obtain ⟨d, hd1, hd2⟩ := dpAll_get ha hz
      have hif : i < f.length := by omega
      have ed : d = encL f[i] := by
        rw [List.getElem?_map, List.getElem?_eq_getElem hif] at hd1
        exact (Option.some.inj hd1).symm
      subst ed
      obtain ⟨t, u, rfl, ht, hu⟩ := dp_slab hd2
      obtain ⟨p, us, rfl, hp, hus⟩ := dp_tup hu
      have wl : ws.length = i := by
        have := Paired.length sl
        rw [List.length_take] at this
        omega
      refine ⟨t, _, rfl, sqT_same S2 ht, rfl, _, _, rfl, _, _, rfl, _, _, rfl, rfl, rfl, ?_⟩
      refine ⟨_, rfl, _, rfl, .ref p, rfl, p, us, rfl, .inr (sqT_same S2 hp), fun l hl => ⟨(by show 3 ≤ sizeLine; decide), fun t2 ht2 => ?_⟩⟩
      have T1 := same_new (o := .lst us) hl
      have T2 := same_new (o := .tup [.int f[i].1, .int f[i].2.1, .ref l]) ht2
      have S4 := S2.trans (T1.trans T2)
      have hL4 := T2 _ _ (T1 _ _ hL)
      have gl := T2 _ _ (upd_same (H := H2) (a := l) (o := .lst us))
      have gt := upd_same (H := upd H2 l (.lst us)) (a := t2) (o := .tup [.int f[i].1, .int f[i].2.1, .ref l])
      have l0 := S2.free hl
      have t0 := (S2.trans T1).free ht2
      have lD : l ≠ D := (ne_of_none hL hl).symm
      refine ⟨ws, hL4, Nat.lt_of_le_of_lt (show ws.length ≤ 1000 by omega) (by decide), same_grow S4 hD, ws ++ [.ref t2], upd_same, ?_⟩
      rw [List.take_add_one, List.getElem?_eq_getElem hif]
      exact Paired.snoc (SlA.put hL4 (sl.same (T1.trans T2))) ⟨t2, l, us, rfl, t0, l0, lD, by rw [upd_ne (ne_of gt hL4 (by simp))]; exact gt, by rw [upd_ne lD]; exact gl, hus⟩
    · obtain ⟨S2, ws, hL, sl⟩ := r
      rw [len, List.take_length] at sl
      exact ⟨tt_end (sqT_same S2 hs), q H2 D ws S2 hD hL sl⟩
/-! ### check_region, _combined -/
theorem scCheck : FnScope ["thing"] ["thing"] (defScope sCheck) := ⟨rfl, rfl, rfl, by decide +kernel, rfl, by decide +kernel, by decide +kernel⟩
def spCheck (K : PySem.W.Frag) (C : Addr) : Sp := fun vs H Q _ => ∃ a f b, vs = [.ref a] ∧ Rg K C a H f b ∧ Q .non H
theorem ok_check {f C : Addr} {fd : FuncData} {n : Nat} (F : Fun K "check_region" "check_region" sCheck f fd) (T : RTxt K mg C) (is : RIs K C) (mi : mg "isinstance" = none) : FnOk P w K mg base CX0 (n + 1) f fd ["thing"] (spCheck K C) := by
  refine F.ok scCheck (fun vs H Q E h => ?_) (fun cdv A outer st H vs Q E hr h => ?_)
  · obtain ⟨a, f, b, rfl, _⟩ := h
    rfl
  · obtain ⟨a, f, b, rfl, r, q⟩ := h
    refine ⟨_, (pss_one (ps_if (pt_not (pt_val (pe_callB call_isi (by rfl) mi (by decide +kernel) (pa_cons (pv 0) (pa_cons (pe_glob (v := .ref C) (by rfl) T.mgC rfl) pa_nil)))))
  (pss_one ps_no)
  pss_nil)), ?_⟩
    exact ⟨.ref a, rfl, .ref a, .ref C, _, _, true, rfl, .own C, r.ty is, kit_own, true, rfl, q⟩
theorem tSeq_eq {t u : TS} {D : Ends} {σ : L2.St} {H : Hp} : tSeq t u D σ H = t { D with nx := fun σ' H' => u D σ' H' } σ H := rfl
/-- one of two constants -/
theorem tIf_of {tt : TT} {x y : V} {σ : L2.St} {H : Hp} {Q : VK} (b : Bool) (h : ∀ Kt : Bool → Hp → Prop, Kt b H → tt σ H Kt) (q : Q (if b = true then x else y) H) : tIf tt (tC x) (tC y) σ H Q := h _ (by
  cases b
  · exact q
  · exact q)
/-- the bits turned around where a region is unbounded -/
def kTurn (k : Keep) (b1 b2 : Bool) : Keep := fun x y => k (xor x (!b1)) (xor y (!b2)) != k (!b1) (!b2)
theorem kTurn0 (k : Keep) (b1 b2 : Bool) : kTurn k b1 b2 false false = false := by
  unfold kTurn
  rw [Bool.false_xor, Bool.false_xor]
  cases k (!b1) (!b2) <;> rfl
def turnN (b1 b2 : Bool) : Int := (if b1 then 0 else 2) + (if b2 then 0 else 1)
theorem turn_xor (b1 b2 x y : Bool) : Builtin.bitXor (stN (x, y)) (turnN b1 b2) = stN (xor x (!b1), xor y (!b2)) := by
  cases b1 <;> cases b2 <;> cases x <;> cases y <;> decide +kernel
theorem turn_st (b1 b2 : Bool) : turnN b1 b2 = stN (!b1, !b2) := by cases b1 <;> cases b2 <;> rfl
/-- a square of the region -/
def inR (f : Form) (b : Bool) (x y : Int) : Bool := sqF f x y == b
theorem inR_comb {k : Keep} {n m : Nat} {f g : Form} {b1 b2 : Bool} (s1 : Sz n f) (s2 : Sz m g) (x y : Int) : inR (combF (kTurn k b1 b2) f g) (!k (!b1) (!b2)) x y = k (inR f b1 x y) (inR g b2 x y) := by
  unfold inR
  rw [s1.sq s2 (kTurn0 k b1 b2)]
  unfold kTurn
  generalize sqF f x y = u
  generalize sqF g x y = v
  have e1 : (u == b1) = xor u (!b1) := by cases u <;> cases b1 <;> rfl
  have e2 : (v == b2) = xor v (!b2) := by cases v <;> cases b2 <;> rfl
  rw [e1, e2]
  cases k (xor u (!b1)) (xor v (!b2)) <;> cases k (!b1) (!b2) <;> rfl
theorem scCombined : FnScope ["self", "other", "kept", "turn", "kept_forms", "at"] ["self", "other", "kept"] (defScope sCombined) := ⟨rfl, rfl, rfl, by decide +kernel, rfl, by decide +kernel, by decide +kernel⟩
/-- a combination's promise -/
def spComR (K : PySem.W.Frag) (C : Addr) (k : Keep) (a c : Addr) : Hp → VK → Prop := fun H Q => ∃ f b g e n m, Rg K C a H f b ∧ Rg K C c H g e ∧ Sz n f ∧ Sz m g ∧ n ≤ 400 ∧ m ≤ 400 ∧ ∀ H' x, Same H H' → Rg K C x H' (combF (kTurn k b e) f g) (!k (!b) (!e)) → Q (.ref x) H'
def spCombined (K : PySem.W.Frag) (C : Addr) : Sp := fun vs H Q _ => ∃ a c v k, vs = [.ref a, .ref c, v] ∧ Dp K H v (encK k) ∧ spComR K C k a c H Q
theorem ok_combined {f C fK fC fI : Addr} {fd dK dC dI : FuncData} {n : Nat} (F : Fun K "_combined" "Region._combined" sCombined f fd) (T : RTxt K mg C)
    (GK : FnOk P w K mg base CX0 (n + 1) fK dK ["thing"] (spCheck K C)) (kK : PySem.W.keepIn K (.ref fK) = true) (bK : Binds K dK ["thing"] []) (gK : mg "check_region" = some (.ref fK))
    (GC : FnOk P w K mg base CX0 (n + 1) fC dC ["one", "other", "kept"] (spCmb K)) (kC : PySem.W.keepIn K (.ref fC) = true) (bC : Binds K dC ["one", "other", "kept"] []) (gC : mg "combined" = some (.ref fC))
    (M : L2.Mk K C fI) (GI : FnOk P w K mg base CX0 n fI dI ["self", "slabs", "is_bounded"] (spInit K C)) (bI : Binds K dI ["self", "slabs", "is_bounded"] [])
    (mr : mg "range" = none) (mt : mg "tuple" = none) : FnOk P w K mg base CX0 (n + 2) f fd ["self", "other", "kept"] (spCombined K C) := by
  have nd := scCombined.nd
  refine F.ok scCombined (fun vs H Q E h => ?_) (fun cdv A outer st H vs Q E hr h => ?_)
  · obtain ⟨a, c, v, k, rfl, _⟩ := h
    rfl
  · obtain ⟨a, c, v, k, rfl, dk, f, b, g, e, n, m, rA, rC, s1, s2, n4, m4, q⟩ := h
    refine ⟨_, (pss_cut (ps_expr (pe_call GK hr (by rfl) gK kK bK .nil pass0 (pa_cons (pv 1) pa_nil)))
  (pss_cut (ps_set (i := 3) nd rfl (Or.inr rfl) (pe_op op_add (pe_ifExp (pt_val (pe_fld (pv 0) rfl)) pe_int pe_int) (pe_ifExp (pt_val (pe_fld (pv 1) rfl)) pe_int pe_int)))
  (pss_cut (ps_set (i := 4) nd rfl (Or.inl rfl) (pe_callTy call_tuple_of (by rfl) mt (by decide +kernel) (pa_cons (pe_lc (own := [("at", 5)]) (g := gName 5) (tt := tYes) rfl nd (pi_range1 (by rfl) mr (pa_cons pe_int pa_nil)) (blkOk_by (N := ["self", "other", "kept", "turn", "kept_forms", "at"]) (sc := defScope sCombined) (by decide +kernel)) (fun _ _ _ _ _ => (pg_name (i := 5) nd rfl (Or.inl rfl))) (fun _ _ _ _ _ => pts_nil) (fun _ _ _ _ _ => (pe_cmpR op_ne (pe_ix (r := rIxT K) ix_tup (pv 2) (pe_op op_xor (pv 5) (pv 3)) (fun _ _ => rfl)) (pe_ix (r := rIxT K) ix_tup (pv 2) (pv 3) (fun _ _ => rfl)) (nomark _)))) pa_nil)))
  (pss_one (ps_ret (pe_make M GI hr (by rfl) T.mgC bI .nil pass0 (pa_cons (pe_call GC hr (by rfl) gC kC bC .nil pass0 (pa_cons (pe_fld (pv 0) rfl) (pa_cons (pe_fld (pv 1) rfl) (pa_cons (pv 4) pa_nil)))) (pa_cons (pe_not (pe_ix ix_tup (pv 2) (pv 3) (fun _ _ => rfl))) pa_nil)))))))), ?_⟩
    obtain ⟨dxA, vA, eA, dA⟩ := rA
    obtain ⟨dxC, vC, eC, dC⟩ := rC
    obtain ⟨kA, rfl, hk⟩ := dp_keep dk
    refine ⟨fun σ' H' => H' = H ∧ σ' = [some (.ref a), some (.ref c), some (.ref kA), none, none, none], ⟨.ref c, rfl, c, g, e, rfl, ⟨dxC, vC, eC, dC⟩, rfl, rfl⟩, ?_⟩
    rintro σ1 H1 ⟨rfl, rfl⟩
    refine ⟨fun σ' H' => H' = H1 ∧ σ' = [some (.ref a), some (.ref c), some (.ref kA), some (.int (turnN b e)), none, none], ?_, ?_⟩
    · rw [tAsg_eq, tOp_eq]
      refine tIf_of b (fun Kt hK => ⟨.ref a, rfl, a, C, dxA, _, .bl b, rfl, eA, T.cl, T.nB, rf_b _ _, b, rfl, hK⟩) ?_
      refine tIf_of e (fun Kt hK => ⟨.ref c, rfl, c, C, dxC, _, .bl e, rfl, eC, T.cl, T.nB, rf_b _ _, e, rfl, hK⟩) ?_
      exact ⟨if b = true then 0 else 2, if e = true then 0 else 1, by cases b <;> rfl, by cases e <;> rfl, rfl, rfl⟩
    rintro σ2 H2 ⟨rfl, rfl⟩
    refine ⟨fun σ' H' => ∃ t, Same H2 H' ∧ Dp K H' (.ref t) (encK (kTurn k b e)) ∧ σ' = [some (.ref a), some (.ref c), some (.ref kA), some (.int (turnN b e)), some (.ref t), none], ?_, ?_⟩
    · rw [tAsg_eq, tCB_eq, tCons_eq]
      refine ⟨4, rfl, by decide, by decide, fun D hD => ?_⟩
      refine wk 4 (fun i H' => Same H2 H' ∧ H' D = some (.lst ([V.bl (kTurn k b e false false), .bl (kTurn k b e false true), .bl (kTurn k b e true false), .bl (kTurn k b e true true)].take i))) ⟨same_new hD, upd_same⟩ (fun i H3 hi r => ?_) (fun H3 r => ?_)
      · obtain ⟨S3, hL⟩ := r
        obtain ⟨x, y, hxy, hat⟩ : ∃ x y : Bool, (0 + (i : Int)) = stN (x, y) ∧ [V.bl (kTurn k b e false false), .bl (kTurn k b e false true), .bl (kTurn k b e true false), .bl (kTurn k b e true true)].take (i + 1) = [V.bl (kTurn k b e false false), .bl (kTurn k b e false true), .bl (kTurn k b e true false), .bl (kTurn k b e true true)].take i ++ [.bl (kTurn k b e x y)] := by
          match i, hi with
          | 0, _ => exact ⟨false, false, rfl, rfl⟩
          | 1, _ => exact ⟨false, true, rfl, rfl⟩
          | 2, _ => exact ⟨true, false, rfl, rfl⟩
          | 3, _ => exact ⟨true, true, rfl, rfl⟩
        refine tr_go hi ?_
        rw [hxy]
        refine ⟨rfl, ?_⟩
        have kS := sqT_same S3 hk
        refine ⟨.ref kA, rfl, .int (stN (x, y)), rfl, .int (turnN b e), rfl, _, _, rfl, rfl, ?_⟩
        refine ⟨kA, _, _, .bl (k (xor x (!b)) (xor y (!e))), rfl, rfl, kS, (by rw [turn_xor]; exact kept_at _), ?_⟩
        refine ⟨.ref kA, rfl, .int (turnN b e), rfl, kA, _, _, .bl (k (!b) (!e)), rfl, rfl, kS, (by rw [turn_st]; exact kept_at _), rfl, ?_⟩
        have ev : V.bl (!decide (V.bl (k (xor x (!b)) (xor y (!e))) = V.bl (k (!b) (!e)))) = .bl (kTurn k b e x y) := by
          unfold kTurn
          generalize k (xor x (!b)) (xor y (!e)) = u
          generalize k (!b) (!e) = v
          cases u <;> cases v <;> decide
        refine ⟨_, hL, ?_, same_grow S3 hD, ?_⟩
        · exact Nat.lt_of_le_of_lt (List.length_take_le _ _) (Nat.lt_of_lt_of_le (show i < 4 from hi) (by decide))
        · rw [upd_same, hat]
          exact congrArg (fun z => some (HO.lst (_ ++ [z]))) ev
      · obtain ⟨S3, hL⟩ := r
        refine ⟨tr_end, D, _, rfl, .inl ⟨.inl (.inl hL), fun l hl => ⟨l, S3.trans (same_new hl), .tup sqT_new (.cons (.bl _) (.cons (.bl _) (.cons (.bl _) (.cons (.bl _) .nil)))), rfl⟩⟩⟩
    rintro _ H3 ⟨t, S2, dt, rfl⟩
    have few1 : Few 900 f := ⟨by have := s1.few.1; omega, fun p hp => by have := s1.few.2 p hp; omega⟩
    have few2 : Few 900 g := ⟨by have := s2.few.1; omega, fun p hp => by have := s2.few.2 p hp; omega⟩
    refine ⟨.ref a, rfl, a, C, dxA, _, vA, rfl, S2 _ _ eA, T.cl, T.nS, rf_s _ _, .ref c, rfl, c, C, dxC, _, vC, rfl, S2 _ _ eC, T.cl, T.nS, rf_s _ _, .ref t, rfl, vA, vC, .ref t, f, g, kTurn k b e, rfl, dp_same S2 dA, dp_same S2 dC, dt, s1.ok, s2.ok, kTurn0 _ _ _, few1, few2, fun H4 v S4 D4 => ?_⟩
    refine ⟨.ref kA, rfl, .int (turnN b e), rfl, kA, _, _, .bl (k (!b) (!e)), rfl, rfl, sqT_same (S2.trans S4) hk, (by rw [turn_st]; exact kept_at _), _, rfl, ?_⟩
    exact mk_rg D4 fun H' x S' R => q H' x ((S2.trans S4).trans S') R
end
end Vf

set_option Elab.async false
set_option linter.all false
set_option maxRecDepth 100000
/-! The operators of regions. -/
namespace Vf
open PySem PySem.Spec PyProof.Rows L2
open C8 (pss_cut tCut)
open Fm (Spans Form Slab Keep)
abbrev kAnd : Keep := fun a b => a && b
abbrev kSub : Keep := fun a b => a && !b
abbrev kXor : Keep := fun a b => xor a b
theorem rf_no (v : V) (b : Bool) {m : Str} (h1 : ¬ m = "_is_bounded") (h2 : ¬ m = "_slabs") : (rf v b).lookup m = none := by
  unfold rf
  rw [lookup_putF, if_neg h1, lookup_putF, if_neg h2]
  all_goals rfl
def spOp (K : PySem.W.Frag) (C : Addr) (k : Keep) : Sp := fun vs H Q _ => ∃ a c, vs = [.ref a, .ref c] ∧ spComR K C k a c H Q
section
variable {P : Program} {w : World} {K : PySem.W.Frag} {mg : Str → Option Value} {base : Heap}
theorem sc_or : FnScope ["self", "other"] ["self", "other"] (defScope sOr) := ⟨rfl, rfl, rfl, by decide +kernel, rfl, by decide +kernel, by decide +kernel⟩
theorem ok_or {f C fC : Addr} {fd dC : FuncData} {n : Nat} (F : Fun K "__or__" "Region.__or__" sOr f fd) (T : RTxt K mg C)
    (GC : FnOk P w K mg base CX0 n fC dC ["self", "other", "kept"] (spCombined K C)) (mC : Meth K C "_combined" fC) (bC : Binds K dC ["self", "other", "kept"] []) (kE : KTup K mg "EITHER" kOr) : FnOk P w K mg base CX0 (n + 1) f fd ["self", "other"] (spOp K C kOr) := by
  obtain ⟨eE, gE, hE⟩ := kE
  refine F.ok sc_or (fun vs H Q E h => ?_) (fun cdv A outer st H vs Q E hr h => ?_)
  · obtain ⟨a, c, rfl, _⟩ := h
    rfl
  · obtain ⟨a, c, rfl, q⟩ := h
    refine ⟨_, (pss_one (ps_ret (pe_meth (pv 0) T.cl mC GC hr bC .nil pass0 (pa_cons (pv 1) (pa_cons (pe_glob (v := .ref eE) (by rfl) gE rfl) pa_nil))))), ?_⟩
    obtain ⟨f, b, g, e, n, m, ⟨dx, v, eA, d⟩, r⟩ := q
    exact ⟨.ref a, rfl, a, dx, _, rfl, eA, rf_no _ _ (by decide +kernel) (by decide +kernel), .ref c, rfl, a, c, .ref eE, kOr, rfl, hE _, f, b, g, e, n, m, ⟨dx, v, eA, d⟩, r⟩
theorem sc_and : FnScope ["self", "other"] ["self", "other"] (defScope sAnd) := ⟨rfl, rfl, rfl, by decide +kernel, rfl, by decide +kernel, by decide +kernel⟩
theorem ok_and {f C fC : Addr} {fd dC : FuncData} {n : Nat} (F : Fun K "__and__" "Region.__and__" sAnd f fd) (T : RTxt K mg C)
    (GC : FnOk P w K mg base CX0 n fC dC ["self", "other", "kept"] (spCombined K C)) (mC : Meth K C "_combined" fC) (bC : Binds K dC ["self", "other", "kept"] []) (kE : KTup K mg "BOTH" kAnd) : FnOk P w K mg base CX0 (n + 1) f fd ["self", "other"] (spOp K C kAnd) := by
  obtain ⟨eE, gE, hE⟩ := kE
  refine F.ok sc_and (fun vs H Q E h => ?_) (fun cdv A outer st H vs Q E hr h => ?_)
  · obtain ⟨a, c, rfl, _⟩ := h
    rfl
  · obtain ⟨a, c, rfl, q⟩ := h
    refine ⟨_, (pss_one (ps_ret (pe_meth (pv 0) T.cl mC GC hr bC .nil pass0 (pa_cons (pv 1) (pa_cons (pe_glob (v := .ref eE) (by rfl) gE rfl) pa_nil))))), ?_⟩
    obtain ⟨f, b, g, e, n, m, ⟨dx, v, eA, d⟩, r⟩ := q
    exact ⟨.ref a, rfl, a, dx, _, rfl, eA, rf_no _ _ (by decide +kernel) (by decide +kernel), .ref c, rfl, a, c, .ref eE, kAnd, rfl, hE _, f, b, g, e, n, m, ⟨dx, v, eA, d⟩, r⟩
theorem sc_sub : FnScope ["self", "other"] ["self", "other"] (defScope sSub) := ⟨rfl, rfl, rfl, by decide +kernel, rfl, by decide +kernel, by decide +kernel⟩
theorem ok_sub {f C fC : Addr} {fd dC : FuncData} {n : Nat} (F : Fun K "__sub__" "Region.__sub__" sSub f fd) (T : RTxt K mg C)
    (GC : FnOk P w K mg base CX0 n fC dC ["self", "other", "kept"] (spCombined K C)) (mC : Meth K C "_combined" fC) (bC : Binds K dC ["self", "other", "kept"] []) (kE : KTup K mg "ONLY_FIRST" kSub) : FnOk P w K mg base CX0 (n + 1) f fd ["self", "other"] (spOp K C kSub) := by
  obtain ⟨eE, gE, hE⟩ := kE
  refine F.ok sc_sub (fun vs H Q E h => ?_) (fun cdv A outer st H vs Q E hr h => ?_)
  · obtain ⟨a, c, rfl, _⟩ := h
    rfl
  · obtain ⟨a, c, rfl, q⟩ := h
    refine ⟨_, (pss_one (ps_ret (pe_meth (pv 0) T.cl mC GC hr bC .nil pass0 (pa_cons (pv 1) (pa_cons (pe_glob (v := .ref eE) (by rfl) gE rfl) pa_nil))))), ?_⟩
    obtain ⟨f, b, g, e, n, m, ⟨dx, v, eA, d⟩, r⟩ := q
    exact ⟨.ref a, rfl, a, dx, _, rfl, eA, rf_no _ _ (by decide +kernel) (by decide +kernel), .ref c, rfl, a, c, .ref eE, kSub, rfl, hE _, f, b, g, e, n, m, ⟨dx, v, eA, d⟩, r⟩
theorem sc_xor : FnScope ["self", "other"] ["self", "other"] (defScope sXor) := ⟨rfl, rfl, rfl, by decide +kernel, rfl, by decide +kernel, by decide +kernel⟩
theorem ok_xor {f C fC : Addr} {fd dC : FuncData} {n : Nat} (F : Fun K "__xor__" "Region.__xor__" sXor f fd) (T : RTxt K mg C)
    (GC : FnOk P w K mg base CX0 n fC dC ["self", "other", "kept"] (spCombined K C)) (mC : Meth K C "_combined" fC) (bC : Binds K dC ["self", "other", "kept"] []) (kE : KTup K mg "EXACTLY_ONE" kXor) : FnOk P w K mg base CX0 (n + 1) f fd ["self", "other"] (spOp K C kXor) := by
  obtain ⟨eE, gE, hE⟩ := kE
  refine F.ok sc_xor (fun vs H Q E h => ?_) (fun cdv A outer st H vs Q E hr h => ?_)
  · obtain ⟨a, c, rfl, _⟩ := h
    rfl
  · obtain ⟨a, c, rfl, q⟩ := h
    refine ⟨_, (pss_one (ps_ret (pe_meth (pv 0) T.cl mC GC hr bC .nil pass0 (pa_cons (pv 1) (pa_cons (pe_glob (v := .ref eE) (by rfl) gE rfl) pa_nil))))), ?_⟩
    obtain ⟨f, b, g, e, n, m, ⟨dx, v, eA, d⟩, r⟩ := q
    exact ⟨.ref a, rfl, a, dx, _, rfl, eA, rf_no _ _ (by decide +kernel) (by decide +kernel), .ref c, rfl, a, c, .ref eE, kXor, rfl, hE _, f, b, g, e, n, m, ⟨dx, v, eA, d⟩, r⟩
/-! ### ~ -/
theorem scInv : FnScope ["self"] ["self"] (defScope sInv) := ⟨rfl, rfl, rfl, by decide +kernel, rfl, by decide +kernel, by decide +kernel⟩
def spInv (K : PySem.W.Frag) (C : Addr) : Sp := fun vs H Q _ => ∃ a f b, vs = [.ref a] ∧ Rg K C a H f b ∧ ∀ H' x, Same H H' → Rg K C x H' f (!b) → Q (.ref x) H'
theorem ok_inv {f C fI : Addr} {fd dI : FuncData} {n : Nat} (F : Fun K "__invert__" "Region.__invert__" sInv f fd) (T : RTxt K mg C) (M : L2.Mk K C fI) (GI : FnOk P w K mg base CX0 n fI dI ["self", "slabs", "is_bounded"] (spInit K C)) (bI : Binds K dI ["self", "slabs", "is_bounded"] []) :
    FnOk P w K mg base CX0 (n + 2) f fd ["self"] (spInv K C) := by
  refine F.ok scInv (fun vs H Q E h => ?_) (fun cdv A outer st H vs Q E hr h => ?_)
  · obtain ⟨a, f, b, rfl, _⟩ := h
    rfl
  · obtain ⟨a, f, b, rfl, ⟨dx, v, eA, d⟩, q⟩ := h
    refine ⟨_, (pss_one (ps_ret (pe_make M GI hr (by rfl) T.mgC bI .nil pass0 (pa_cons (pe_fld (pv 0) rfl) (pa_cons (pe_not (pe_fld (pv 0) rfl)) pa_nil))))), ?_⟩
    refine ⟨.ref a, rfl, a, C, dx, _, v, rfl, eA, T.cl, T.nS, rf_s _ _, .ref a, rfl, a, C, dx, _, .bl b, rfl, eA, T.cl, T.nB, rf_b _ _, b, rfl, ?_⟩
    exact mk_rg d q
/-! ### in -/
theorem scCheckSq : FnScope ["thing"] ["thing"] (defScope sCheckSq) := ⟨rfl, rfl, rfl, by decide +kernel, rfl, by decide +kernel, by decide +kernel⟩
def spCheckSq (K : PySem.W.Frag) : Sp := fun vs H Q _ => ∃ v x y, vs = [v] ∧ Dp K H v (.tuple [.int x, .int y]) ∧ ∀ H', Same H H' → Q .non H'
theorem ok_checkSq {f fS : Addr} {fd dS : FuncData} {n : Nat} (F : Fun K "check_square" "check_square" sCheckSq f fd)
    (GS : FnOk P w K mg base CX0 n fS dS ["thing"] (spSq K)) (kS : PySem.W.keepIn K (.ref fS) = true) (bS : Binds K dS ["thing"] []) (gS : mg "is_square" = some (.ref fS)) : FnOk P w K mg base CX0 (n + 1) f fd ["thing"] (spCheckSq K) := by
  refine F.ok scCheckSq (fun vs H Q E h => ?_) (fun cdv A outer st H vs Q E hr h => ?_)
  · obtain ⟨v, x, y, rfl, _⟩ := h
    rfl
  · obtain ⟨v, x, y, rfl, dv, q⟩ := h
    refine ⟨_, (pss_one (ps_if (pt_not (pt_val (pe_call GS hr (by rfl) gS kS bS .nil pass0 (pa_cons (pv 0) pa_nil))))
  (pss_one ps_no)
  pss_nil)), ?_⟩
    refine ⟨v, rfl, v, .tuple [.int x, .int y], rfl, .inl dv, ?_, fun H1 S1 => ?_⟩
    · intro ds e
      cases e
      exact Nat.le_trans (show 2 ≤ 2 from Nat.le_refl _) (by decide)
    · exact ⟨true, rfl, q H1 S1⟩
theorem scContains : FnScope ["self", "square", "x", "y"] ["self", "square"] (defScope sContains) := ⟨rfl, rfl, rfl, by decide +kernel, rfl, by decide +kernel, by decide +kernel⟩
def spContains (K : PySem.W.Frag) (C : Addr) : Sp := fun vs H Q _ => ∃ a v f b x y n, vs = [.ref a, v] ∧ Rg K C a H f b ∧ Dp K H v (.tuple [.int x, .int y]) ∧ Sz n f ∧ n ≤ 400 ∧ ∀ H', Same H H' → Q (.bl (inR f b x y)) H'
theorem ok_contains {f C fS fH : Addr} {fd dS dH : FuncData} {n : Nat} (F : Fun K "__contains__" "Region.__contains__" sContains f fd) (T : RTxt K mg C)
    (GS : FnOk P w K mg base CX0 n fS dS ["thing"] (spCheckSq K)) (kS : PySem.W.keepIn K (.ref fS) = true) (bS : Binds K dS ["thing"] []) (gS : mg "check_square" = some (.ref fS))
    (GH : FnOk P w K mg base CX0 n fH dH ["slabs", "x", "y"] (spHas K)) (kH : PySem.W.keepIn K (.ref fH) = true) (bH : Binds K dH ["slabs", "x", "y"] []) (gH : mg "has_square" = some (.ref fH)) : FnOk P w K mg base CX0 (n + 1) f fd ["self", "square"] (spContains K C) := by
  have nd := scContains.nd
  refine F.ok scContains (fun vs H Q E h => ?_) (fun cdv A outer st H vs Q E hr h => ?_)
  · obtain ⟨a, v, f, b, x, y, n, rfl, _⟩ := h
    rfl
  · obtain ⟨a, v, f, b, x, y, n, rfl, r, dv, sz, n4, q⟩ := h
    refine ⟨_, (pss_cut (ps_expr (pe_call GS hr (by rfl) gS kS bS .nil pass0 (pa_cons (pv 1) pa_nil)))
  (pss_cons (ps_asg (pv 1) (pg_tup (by rfl) (pgs_cons (pg_name (i := 2) nd rfl (Or.inl rfl)) (pgs_cons (pg_name (i := 3) nd rfl (Or.inl rfl)) pgs_nil))))
  (pss_one (ps_ret (pe_cmpR op_eq (pe_call GH hr (by rfl) gH kH bH .nil pass0 (pa_cons (pe_fld (pv 0) rfl) (pa_cons (pv 2) (pa_cons (pv 3) pa_nil)))) (pe_fld (pv 0) rfl) (nomark _)))))), ?_⟩
    refine ⟨fun σ' H' => Same H H' ∧ σ' = [some (.ref a), some v, none, none], ?_, ?_⟩
    · exact ⟨v, rfl, v, x, y, rfl, dv, fun H1 S1 => ⟨S1, rfl⟩⟩
    rintro _ H1 ⟨S1, rfl⟩
    obtain ⟨dx, u, eA, d⟩ := r
    obtain ⟨p, rfl, hp⟩ := dp_pair (dp_same S1 dv)
    refine ⟨.ref p, rfl, p, _, rfl, hp, rfl, _, _, rfl, _, _, rfl, rfl, ?_⟩
    refine ⟨.ref a, rfl, a, C, dx, _, u, rfl, S1 _ _ eA, T.cl, T.nS, rf_s _ _, .int x, rfl, .int y, rfl, u, x, y, f, rfl, dp_same S1 d, Nat.le_trans (sz.ys x) (by omega), fun H2 S2 => ?_⟩
    refine ⟨.ref a, rfl, a, C, dx, _, .bl b, rfl, (S1.trans S2) _ _ eA, T.cl, T.nB, rf_b _ _, rfl, ?_⟩
    have ev : V.bl (decide (V.bl (hasSq f x y) = V.bl b)) = .bl (inR f b x y) := by
      unfold inR
      show V.bl (decide (V.bl (sqF f x y) = V.bl b)) = .bl (sqF f x y == b)
      generalize sqF f x y = z
      cases z <;> cases b <;> decide
    rw [ev]
    exact q H2 (S1.trans S2)
end
end Vf

set_option Elab.async false
set_option linter.all false
set_option maxRecDepth 100000
/-! Regions compared, their truth, one within another. -/
namespace Vf
open PySem PySem.Spec PyProof.Rows L2
open C8 (pss_cut tCut)
open Fm (Spans Form Slab Keep)
theorem eqv_slab (p q : Slab) : PyData.eqv (encL p) (encL q) = decide (p = q) := by
  obtain ⟨a, b, s⟩ := p
  obtain ⟨c, d, t⟩ := q
  have h := eqv_spans s t
  unfold encS at h
  unfold encL encS
  simp only [PyData.eqv, PyData.eqvAll] at h ⊢
  rw [h]
  by_cases h1 : a = c <;> by_cases h2 : b = d <;> by_cases h3 : s = t <;> simp [h1, h2, h3]
theorem eqvAll_form : ∀ (f g : Form), PyData.eqvAll (f.map encL) (g.map encL) = decide (f = g)
  | [], [] => by simp [PyData.eqvAll]
  | [], _ :: _ => by simp [PyData.eqvAll]
  | _ :: _, [] => by simp [PyData.eqvAll]
  | p :: f, q :: g => by
    simp only [List.map_cons, PyData.eqvAll]
    rw [eqv_slab, eqvAll_form f g]
    by_cases h1 : p = q <;> by_cases h2 : f = g <;> simp [h1, h2]
theorem eqv_form (f g : Form) : PyData.eqv (encF f) (encF g) = decide (f = g) := by
  unfold encF
  simp only [PyData.eqv]
  exact eqvAll_form f g
theorem canLay_pairs (s : Spans) : PyData.canLayAll0 (s.map encP) = true := by
  induction s with
  | nil => rfl
  | cons p s ih => simp only [List.map_cons, PyData.canLayAll0, encP, PyData.canLay0, Bool.true_and, Bool.and_self, ih]
theorem canLay_form (f : Form) : PyData.canLayAll0 (f.map encL) = true := by
  induction f with
  | nil => rfl
  | cons p f ih => simp only [List.map_cons, PyData.canLayAll0, encL, encS, PyData.canLay0, canLay_pairs, Bool.true_and, Bool.and_self, ih]
theorem shaped_form (f : Form) : SeqAt.shaped (encF f) = true := by
  unfold SeqAt.shaped
  have h1 : PyData.canLay0 (encF f) = true := by
    unfold encF
    simp only [PyData.canLay0]
    exact canLay_form f
  have pairs : ∀ s : Spans, PyData.depthAll (s.map encP) ≤ 1 := fun s => depthAll_mem.mpr fun d hd => by
    obtain ⟨p, _, rfl⟩ := List.mem_map.mp hd
    simp [encP, PyData.depth, PyData.depthAll]
  have h2 : PyData.depth (encF f) ≤ 4 := by
    unfold encF
    simp only [PyData.depth]
    have : PyData.depthAll (f.map encL) ≤ 3 := depthAll_mem.mpr fun d hd => by
      obtain ⟨p, _, rfl⟩ := List.mem_map.mp hd
      have := pairs p.2.2
      simp only [encL, encS, PyData.depth, PyData.depthAll]
      omega
    omega
  rw [h1, decide_eq_true (by omega)]
  rfl
section
variable {P : Program} {w : World} {K : PySem.W.Frag} {mg : Str → Option Value} {base : Heap}
theorem scEq : FnScope ["self", "other"] ["self", "other"] (defScope sEq) := ⟨rfl, rfl, rfl, by decide +kernel, rfl, by decide +kernel, by decide +kernel⟩
def sameR (f : Form) (b : Bool) (g : Form) (e : Bool) : Bool := (b == e) && decide (f = g)
def spEqR (K : PySem.W.Frag) (C : Addr) : Sp := fun vs H Q _ => ∃ a c f b g e, vs = [.ref a, .ref c] ∧ Rg K C a H f b ∧ Rg K C c H g e ∧ Q (.bl (sameR f b g e)) H
theorem ok_eq {f C : Addr} {fd : FuncData} {n : Nat} (F : Fun K "__eq__" "Region.__eq__" sEq f fd) (T : RTxt K mg C) (is : RIs K C) (mi : mg "isinstance" = none) : FnOk P w K mg base CX0 (n + 1) f fd ["self", "other"] (spEqR K C) := by
  refine F.ok scEq (fun vs H Q E h => ?_) (fun cdv A outer st H vs Q E hr h => ?_)
  · obtain ⟨a, c, f, b, g, e, rfl, _⟩ := h
    rfl
  · obtain ⟨a, c, f, b, g, e, rfl, rA, rC, q⟩ := h
    have ty := rC.ty is
    obtain ⟨dx, v, eA, d⟩ := rA
    obtain ⟨dy, u, eC, d'⟩ := rC
    refine ⟨_, (pss_one (ps_ret (pe_and (pe_callB call_isi (by rfl) mi (by decide +kernel) (pa_cons (pv 1) (pa_cons (pe_glob (v := .ref C) (by rfl) T.mgC rfl) pa_nil))) (pe_and (pe_cmpR op_eq (pe_fld (pv 0) rfl) (pe_fld (pv 1) rfl) (nomark _)) (pe_one (pe_cmpR (op_eqD hr.units) (pe_fld (pv 0) rfl) (pe_fld (pv 1) rfl) (nomark _))))))), ?_⟩
    refine ⟨.ref c, rfl, .ref c, .ref C, _, _, true, rfl, .own C, ty, kit_own, true, rfl, iteT ?_⟩
    refine ⟨.ref a, rfl, a, C, dx, _, .bl b, rfl, eA, T.cl, T.nB, rf_b _ _, .ref c, rfl, c, C, dy, _, .bl e, rfl, eC, T.cl, T.nB, rf_b _ _, rfl, ?_⟩
    have ev : decide (V.bl b = V.bl e) = (b == e) := by cases b <;> cases e <;> decide
    rw [ev]
    refine ⟨_, rfl, ?_⟩
    unfold sameR at q
    cases z : (b == e) with
    | true =>
      rw [z] at q
      refine iteT ⟨.ref a, rfl, a, C, dx, _, v, rfl, eA, T.cl, T.nS, rf_s _ _, .ref c, rfl, c, C, dy, _, u, rfl, eC, T.cl, T.nS, rf_s _ _, encF f, encF g, d, d', shaped_form f, shaped_form g, ?_⟩
      rw [eqv_form]
      exact q
    | false =>
      rw [z] at q
      exact iteF q
end
end Vf

set_option Elab.async false
set_option linter.all false
set_option maxRecDepth 100000
set_option exponentiation.threshold 3000
/-! The pool of a law. -/
namespace Vf
open PySem PySem.Spec PyProof.Rows L2
open C8 (pss_cut tCut)
theorem scPool : FnScope ["_law_script", "_law_k", "_law_cell", "_law_seed"] ["_law_script", "_law_k"] (defScope sPool) := ⟨rfl, rfl, rfl, by decide +kernel, rfl, by decide +kernel, by decide +kernel⟩
theorem scTake : FnScope ["_law_pool_here", "_law_sides", "_law_found"] ["_law_pool_here", "_law_sides"] (defScope sTake) := ⟨rfl, rfl, rfl, by decide +kernel, rfl, by decide +kernel, by decide +kernel⟩
section
variable {P : Program} {w : World} {K : PySem.W.Frag} {mg : Str → Option Value} {base : Heap}
/-! ### the pool -/
/-- a list of two numbers from which the law draws -/
def Pool (H : Hp) (p : Addr) : Prop := ∃ c s : Int, H p = some (.lst [.int c, .int s]) ∧ 0 ≤ c ∧ 0 ≤ s ∧ s < 2147483647
def spTake (_ : PySem.W.Frag) : Sp := fun vs H Q _ => ∃ p n, vs = [.ref p, .int n] ∧ Pool H p ∧ 0 < n ∧ n < 2 ^ 300 ∧ ∀ v o, 0 ≤ v → v < n → Pool (upd H p o) p → Q (.int v) (upd H p o)
theorem ok_take {f : Addr} {fd : FuncData} {k : Nat} (F : Fun K "_law_take" "_law_take" sTake f fd) : FnOk P w K mg base CX0 (k + 1) f fd ["_law_pool_here", "_law_sides"] (spTake K) := by
  have nd := scTake.nd
  refine F.ok scTake (fun vs H Q E h => ?_) (fun cdv A outer st H vs Q E hr h => ?_)
  · obtain ⟨p, n, rfl, _⟩ := h
    rfl
  · obtain ⟨p, n, rfl, ⟨c, s, hp, hc, hs, hs2⟩, hn, hn2, q⟩ := h
    have hw : CDivW c n := wide_div hn (b := 300) (by omega) (by decide) (by decide)
    have hb : SqL K H p [.int c, .int s] := .inl (.inl hp)
    refine ⟨_, (pss_cons (ps_if (pt_cmpR op_gt (pe_ix ix_list (pv 0) pe_int (fun _ _ => rfl)) pe_int (nomark _))
  (pss_cons (ps_set (i := 2) nd rfl (Or.inl rfl) (pe_op op_mod (pe_ix ix_list (pv 0) pe_int (fun _ _ => rfl)) (pv 1)))
  (pss_cons (ps_asg (pe_op op_fdivW (pe_ix ix_list (pv 0) pe_int (fun _ _ => rfl)) (pv 1)) (pg_sub (pv 0) pe_int set_list))
  (pss_one (ps_ret (pv 2)))))
  pss_nil)
  (pss_cons (ps_asg (pe_op op_mod (pe_op op_add (pe_op op_mul (pe_ix ix_list (pv 0) pe_int (fun _ _ => rfl)) pe_int) pe_int) pe_int) (pg_sub (pv 0) pe_int set_list))
  (pss_one (ps_ret (pe_op op_mod (pe_op op_fdivW (pe_op op_mod (pe_op op_mul (pe_ix ix_list (pv 0) pe_int (fun _ _ => rfl)) (pe_ix ix_list (pv 0) pe_int (fun _ _ => rfl))) pe_int) pe_int) (pv 1)))))), ?_⟩
    refine ⟨.ref p, rfl, p, _, 0, .int c, rfl, rfl, hb, atI_nat (j := 0) rfl, c, 0, rfl, rfl, _, rfl, ite2 (fun e => ?_) (fun e => ?_)⟩
    · -- from the great number
      refine ⟨.ref p, rfl, p, _, 0, .int c, rfl, rfl, hb, atI_nat (j := 0) rfl, .int n, rfl, c, n, rfl, rfl, hn, ?_⟩
      refine ⟨.ref p, rfl, p, _, 0, .int c, rfl, rfl, hb, atI_nat (j := 0) rfl, .int n, rfl, c, n, rfl, rfl, hw, ?_⟩
      refine ⟨.ref p, rfl, p, _, 0, 0, rfl, rfl, hp, rfl, ?_⟩
      refine ⟨_, rfl, q (c % n) _ (Int.emod_nonneg _ (by omega)) (Int.emod_lt_of_pos _ hn) ⟨c / n, s, upd_same, Int.ediv_nonneg hc (by omega), hs, hs2⟩⟩
    · refine ⟨.ref p, rfl, p, _, 1, .int s, rfl, rfl, hb, atI_nat (j := 1) rfl, s, 48271, rfl, rfl, .inl ⟨by omega, by omega⟩, s * 48271, 11, rfl, rfl, s * 48271 + 11, 2147483647, rfl, rfl, (show (0 : Int) < 2147483647 by decide), ?_⟩
      have h1 : 0 ≤ (s * 48271 + 11) % 2147483647 := Int.emod_nonneg _ (by decide)
      have h2 : (s * 48271 + 11) % 2147483647 < 2147483647 := Int.emod_lt_of_pos _ (by decide)
      refine ⟨.ref p, rfl, p, _, 1, 1, rfl, rfl, hp, rfl, ?_⟩
      have hb2 : SqL K (upd H p (.lst [.int c, .int ((s * 48271 + 11) % 2147483647)])) p [.int c, .int ((s * 48271 + 11) % 2147483647)] := sqL_new
      refine ⟨.ref p, rfl, p, _, 1, .int ((s * 48271 + 11) % 2147483647), rfl, rfl, hb2, atI_nat (j := 1) rfl, .ref p, rfl, p, _, 1, .int ((s * 48271 + 11) % 2147483647), rfl, rfl, hb2, atI_nat (j := 1) rfl, ((s * 48271 + 11) % 2147483647), ((s * 48271 + 11) % 2147483647), rfl, rfl, .inl ⟨by omega, by omega⟩, ((s * 48271 + 11) % 2147483647) * ((s * 48271 + 11) % 2147483647), 2147483629, rfl, rfl, (show (0 : Int) < 2147483629 by decide), ((s * 48271 + 11) % 2147483647) * ((s * 48271 + 11) % 2147483647) % 2147483629, 64, rfl, rfl, wide_div (by decide) (b := 7) (by decide) (by decide) (by decide), .int n, rfl, _, n, rfl, rfl, hn, ?_⟩
      exact q _ _ (Int.emod_nonneg _ (by omega)) (Int.emod_lt_of_pos _ hn) ⟨c, _, upd_same, hc, h1, h2⟩
def spPool (K : PySem.W.Frag) : Sp := fun vs H Q _ => ∃ (a : Addr) (ns : List Int) (k : Int), vs = [.ref a, .int k] ∧ SqL K H a (ns.map V.int) ∧ ns.length ≤ 1000 ∧ 0 ≤ k ∧ k ≤ 1000 ∧ ∀ p o, H p = none → Pool (upd H p o) p → Q (.ref p) (upd H p o)
theorem ok_pool {f : Addr} {fd : FuncData} {k : Nat} (F : Fun K "_law_pool" "_law_pool" sPool f fd) (ml : mg "len" = none) : FnOk P w K mg base CX0 (k + 1) f fd ["_law_script", "_law_k"] (spPool K) := by
  have nd := scPool.nd
  refine F.ok scPool (fun vs H Q E h => ?_) (fun cdv A outer st H vs Q E hr h => ?_)
  · obtain ⟨a, ns, j, rfl, _⟩ := h
    rfl
  · obtain ⟨a, ns, j, rfl, hS, hl, h0, h1, q⟩ := h
    refine ⟨_, (pss_cons (ps_set (i := 2) nd rfl (Or.inl rfl) pe_int)
  (pss_cut (ps_if (pt_cmpR op_lt (pv 1) (pe_callB call_len_seq (by rfl) ml PySem.boot_len (pa_cons (pv 0) pa_nil)) (nomark _))
  (pss_one (ps_set (i := 2) nd rfl (Or.inl rfl) (pe_ix ix_list (pv 0) (pv 1) (fun _ _ => rfl))))
  pss_nil)
  (pss_cons (ps_set (i := 3) nd rfl (Or.inl rfl) (pe_op op_mod (pe_op op_mul (pe_op op_add (pe_op op_add (pe_op op_mod (pv 2) pe_int) (pe_op op_mul (pe_op op_mul pe_int (pv 1)) (pv 1))) pe_int) pe_int) pe_int))
  (pss_cut (ps_if (pt_cmpR op_lt (pv 2) (pe_op op_pow pe_int pe_int) (nomark _))
  (pss_one (ps_set (i := 2) nd rfl (Or.inl rfl) pe_int))
  pss_nil)
  (pss_one (ps_ret (pe_lst (pa_cons (pv 2) (pa_cons (pe_op op_add (pe_op op_mod (pe_op op_mul (pv 3) (pv 3)) pe_int) pe_int) pa_nil))))))))), ?_⟩
    refine ⟨fun σ H' => H' = H ∧ ∃ c : Int, σ = [some (.ref a), some (.int j), some (.int c), none], ?_, ?_⟩
    · refine ⟨.int j, rfl, .ref a, rfl, a, _, rfl, .inl hS, j, _, rfl, rfl, _, rfl, ite2 (fun e => ?_) (fun e => ?_)⟩
      · have e' : j < ((ns.map V.int).length : Int) := of_decide_eq_true e
        rw [List.length_map] at e'
        obtain ⟨m, rfl⟩ : ∃ m : Nat, j = m := ⟨j.toNat, by omega⟩
        have hm : m < ns.length := by omega
        refine ⟨.ref a, rfl, .int m, rfl, a, _, (m : Int), .int ns[m], rfl, rfl, hS, atI_nat (j := m) ?_, rfl, ns[m], rfl⟩
        rw [List.getElem?_map, List.getElem?_eq_getElem hm]
        rfl
      · exact ⟨rfl, 0, rfl⟩
    · rintro σ' H' ⟨rfl, c, rfl⟩
      have b1 : 0 ≤ c % 2147483629 := Int.emod_nonneg _ (by decide)
      have b2 : c % 2147483629 < 2147483629 := Int.emod_lt_of_pos _ (by decide)
      have b3 : 0 ≤ 7919 * j * j := Int.mul_nonneg (by omega) h0
      have b4 : 7919 * j * j ≤ 7919 * 1000 * 1000 := Int.mul_le_mul (by omega) h1 h0 (by omega)
      refine ⟨.int c, rfl, c, 2147483629, rfl, rfl, (show (0 : Int) < 2147483629 by decide), .int j, rfl, 7919, j, rfl, rfl, .inl ⟨by omega, by omega⟩, .int j, rfl, 7919 * j, j, rfl, rfl, .inl ⟨by omega, by omega⟩,
        c % 2147483629, 7919 * j * j, rfl, rfl, c % 2147483629 + 7919 * j * j, 13, rfl, rfl, c % 2147483629 + 7919 * j * j + 13, 48271, rfl, rfl, .inl ⟨by omega, by omega⟩, _, 2147483647, rfl, rfl, (show (0 : Int) < 2147483647 by decide), ?_⟩
      have c1 : 0 ≤ (c % 2147483629 + 7919 * j * j + 13) * 48271 % 2147483647 := Int.emod_nonneg _ (by decide)
      have c2 : (c % 2147483629 + 7919 * j * j + 13) * 48271 % 2147483647 < 2147483647 := Int.emod_lt_of_pos _ (by decide)
      refine ⟨fun σ H2 => H2 = H' ∧ ∃ e : Int, 0 ≤ e ∧ σ = [some (.ref a), some (.int j), some (.int e), some (.int ((c % 2147483629 + 7919 * j * j + 13) * 48271 % 2147483647))], ?_, ?_⟩
      · refine ⟨.int c, rfl, 10, 18, rfl, rfl, ⟨by decide, by decide, by decide⟩, c, _, rfl, rfl, _, rfl, ite2 (fun e => ?_) (fun e => ?_)⟩
        · exact ⟨rfl, 0, Int.le_refl 0, rfl⟩
        · have e' : ¬ c < 10 ^ (18 : Int).toNat := fun z => e (decide_eq_true z)
          have e2 : (10 : Int) ^ (18 : Int).toNat = 1000000000000000000 := by decide
          rw [e2] at e'
          exact ⟨rfl, c, by omega, rfl⟩
      · rintro σ' H2 ⟨rfl, e, he, rfl⟩
        generalize (c % 2147483629 + 7919 * j * j + 13) * 48271 % 2147483647 = z at c1 c2
        have d1 : 0 ≤ z * z % 2147483587 := Int.emod_nonneg _ (by decide)
        have d2 : z * z % 2147483587 < 2147483587 := Int.emod_lt_of_pos _ (by decide)
        refine ⟨.int e, rfl, .int z, rfl, .int z, rfl, z, z, rfl, rfl, .inl ⟨by omega, by omega⟩, z * z, 2147483587, rfl, rfl, (show (0 : Int) < 2147483587 by decide), z * z % 2147483587, 1, rfl, rfl, (by show 2 ≤ sizeLine; decide), fun p hp => ?_⟩
        exact q p _ hp ⟨e, _, upd_same, he, by omega, by omega⟩
theorem pool_same {H H' : Hp} {p : Addr} (h : Pool H p) (s : Same H H') : Pool H' p := by
  obtain ⟨c, z, e, r⟩ := h
  exact ⟨c, z, s _ _ e, r⟩
theorem pool_ne {H : Hp} {p q : Addr} (h : Pool H p) (n : H q = none) : q ≠ p := by
  rintro rfl
  obtain ⟨c, z, e, r⟩ := h
  rw [e] at n
  cases n
theorem sqT_pool {H : Hp} {p t : Addr} {xs : List V} (h : Pool H p) (s : SqT K H t xs) : SqT K (wo p H) t xs := by
  obtain ⟨c, z, e, r⟩ := h
  exact sqT_wo s e
end
end Vf

set_option Elab.async false
set_option linter.all false
set_option maxRecDepth 100000
/-! Small things about pools and lists of lines. -/
namespace Vf
open PySem PySem.Spec PyProof.Rows L2
/-- a step of lines -/
def Big (i n : Int) : Prop := -(i * 1000000000000000000000000001) ≤ n ∧ n ≤ i * 1000000000000000000000000001
theorem big_mono {i j n : Int} (h : Big i n) (ij : i ≤ j) : Big j n := by
  unfold Big at *
  omega
theorem But.free {p l : Addr} {H H' : Hp} (B : But p H H') (n : l ≠ p) (h : H' l = none) : H l = none := by
  cases e : H l with
  | none => rfl
  | some o =>
    rw [B l o n e] at h
    cases h
theorem pool_same' {H : Hp} {p l : Addr} {o : HO} (n : l ≠ p) (h : Pool H p) : Pool (upd H l o) p := by
  obtain ⟨c, z, e, r⟩ := h
  exact ⟨c, z, by rw [upd_ne n.symm]; exact e, r⟩
theorem up_snoc {r : List Int} {z y : Int} (h : Fm.Up (r ++ [z])) (hy : z < y) : Fm.Up (r ++ [z] ++ [y]) := by
  unfold Fm.Up at *
  rw [List.pairwise_append]
  refine ⟨h, List.pairwise_singleton _ _, fun a ha b hb => ?_⟩
  rw [List.mem_singleton.mp hb]
  rcases List.mem_append.mp ha with ha | ha
  · exact Int.lt_trans ((List.pairwise_append.mp h).2.2 a ha z List.mem_cons_self) hy
  · rw [List.mem_singleton.mp ha]
    exact hy
theorem at4 {α : Type} {a b c d x : α} {j : Nat} (hj : j < 4) (P : α → Prop) (pa : P a) (pb : P b) (pc : P c) (pd : P d) : ∃ x, atI [a, b, c, d] (j : Int) = some x ∧ P x := by
  match j, hj with
  | 0, _ => exact ⟨a, atI_nat (j := 0) rfl, pa⟩
  | 1, _ => exact ⟨b, atI_nat (j := 1) rfl, pb⟩
  | 2, _ => exact ⟨c, atI_nat (j := 2) rfl, pc⟩
  | 3, _ => exact ⟨d, atI_nat (j := 3) rfl, pd⟩
end Vf

set_option Elab.async false
set_option linter.all false
set_option maxRecDepth 100000
/-! The lines of a law. -/
namespace Vf
open PySem PySem.Spec PyProof.Rows L2
open C8 (pss_cut tCut)
theorem scLines : FnScope ["_law_pool_here", "_law_many", "_law_sort", "_law_found", "_law_jump"] ["_law_pool_here", "_law_many"] (defScope sLines) := ⟨rfl, rfl, rfl, by decide +kernel, rfl, by decide +kernel, by decide +kernel⟩
section
variable {P : Program} {w : World} {K : PySem.W.Frag} {mg : Str → Option Value} {base : Heap}
def spLines (K : PySem.W.Frag) : Sp := fun vs H Q _ => ∃ (p : Addr) (m : Nat), vs = [.ref p, .int m] ∧ Pool H p ∧ 1 ≤ m ∧ m ≤ 10 ∧
  ∀ H' l ns, But p H H' → Pool H' p → H l = none → H' l = some (.lst (ns.map V.int)) → ns.length = m → Fm.Up ns → (∀ n ∈ ns, Big 11 n) → Q (.ref l) H'
theorem ok_lines {f fT : Addr} {fd dT : FuncData} {n : Nat} (F : Fun K "_law_lines" "_law_lines" sLines f fd)
    (GT : FnOk P w K mg base CX0 n fT dT ["_law_pool_here", "_law_sides"] (spTake K)) (kT : PySem.W.keepIn K (.ref fT) = true) (bT : Binds K dT ["_law_pool_here", "_law_sides"] []) (gT : mg "_law_take" = some (.ref fT))
    (ml : mg "len" = none) : FnOk P w K mg base CX0 (n + 1) f fd ["_law_pool_here", "_law_many"] (spLines K) := by
  have nd := scLines.nd
  refine F.ok scLines (fun vs H Q E h => ?_) (fun cdv A outer st H vs Q E hr h => ?_)
  · obtain ⟨p, m, rfl, _⟩ := h
    rfl
  · obtain ⟨p, m, rfl, P0, m1, m2, q⟩ := h
    refine ⟨_, (pss_cut (ps_set (i := 2) nd rfl (Or.inl rfl) (pe_call GT hr (by rfl) gT kT bT .nil pass0 (pa_cons (pv 0) (pa_cons pe_int pa_nil))))
  (pss_cut (ps_set (i := 3) nd rfl (Or.inl rfl) (pe_lst (pa_cons (pe_ix ix_list (pe_lst (pa_cons pe_int (pa_cons pe_int (pa_cons (pe_un un_neg pe_int) (pa_cons (pe_op op_sub pe_int (pe_op op_mul (pe_call GT hr (by rfl) gT kT bT .nil pass0 (pa_cons (pv 0) (pa_cons (pe_op op_pow pe_int pe_int) pa_nil))) (pe_op op_pow pe_int pe_int))) pa_nil))))) (pv 2) (fun _ _ => rfl)) pa_nil)))
  (pss_cut (ps_while PassesOwn.never (pt_cmpR op_lt (pe_callB call_len_seq (by rfl) ml PySem.boot_len (pa_cons (pv 3) pa_nil)) (pv 1) (nomark _))
  (pss_cut (ps_set (i := 4) nd rfl (Or.inl rfl) (pe_ix ix_list (pe_lst (pa_cons pe_int (pa_cons (pe_op op_add pe_int (pe_call GT hr (by rfl) gT kT bT .nil pass0 (pa_cons (pv 0) (pa_cons pe_int pa_nil)))) (pa_cons pe_int (pa_cons (pe_op op_add pe_int (pe_op op_mul (pe_call GT hr (by rfl) gT kT bT .nil pass0 (pa_cons (pv 0) (pa_cons (pe_op op_pow pe_int pe_int) pa_nil))) (pe_op op_pow pe_int pe_int))) pa_nil))))) (pv 2) (fun _ _ => rfl)))
  (pss_one (ps_expr (pe_bm PySem.F.plainAttrs_list PySem.F.slot_list_append PySem.F.type_list_append mt_append (pv 3) (pa_cons (pe_op op_add (pe_ix ix_list (pv 3) (pe_un un_neg pe_int) (fun _ _ => rfl)) (pv 4)) pa_nil))))))
  (pss_one (ps_ret (pv 3)))))), ?_⟩
    refine ⟨fun σ' H' => ∃ j : Nat, j < 4 ∧ But p H H' ∧ Pool H' p ∧ σ' = [some (.ref p), some (.int m), some (.int j), none, none], ?_, ?_⟩
    · refine ⟨.ref p, rfl, p, 4, rfl, P0, by decide, by decide, fun v o h0 h1 P1 => ⟨v.toNat, by omega, But.at, P1, ?_⟩⟩
      rw [show ((v.toNat : Nat) : Int) = v by omega]
      rfl
    rintro _ H1 ⟨j, hj, B1, P1, rfl⟩
    refine ⟨fun σ' H' => ∃ (l : Addr) (x : Int), But p H H' ∧ Pool H' p ∧ H l = none ∧ H' l = some (.lst [.int x]) ∧ Big 1 x ∧ σ' = [some (.ref p), some (.int m), some (.int j), some (.ref l), none], ?_, ?_⟩
    · refine ⟨3, rfl, ?_⟩
      refine ⟨.ref p, rfl, 10, 18, rfl, rfl, ⟨by decide, by decide, by decide⟩, p, _, rfl, P1, by decide, by decide, fun v o h0 h1 P2 => ?_⟩
      have B2 := B1.trans (But.at (o := o))
      generalize upd H1 p o = H2 at P2 B2
      refine ⟨10, 9, rfl, rfl, ⟨by decide, by decide, by decide⟩, v, _, rfl, rfl, .inr ⟨by decide, by decide⟩, 0, _, rfl, rfl, (by show 4 ≤ sizeLine; decide), fun l1 hl1 => ?_⟩
      have S3 := same_new (o := .lst [.int 0, .int 0, .int (-3), .int (0 - v * 10 ^ (9 : Int).toNat)]) hl1
      have Lq : SqL K (upd H2 l1 (.lst [.int 0, .int 0, .int (-3), .int (0 - v * 10 ^ (9 : Int).toNat)])) l1 [.int 0, .int 0, .int (-3), .int (0 - v * 10 ^ (9 : Int).toNat)] := sqL_new
      generalize upd H2 l1 (.lst [.int 0, .int 0, .int (-3), .int (0 - v * 10 ^ (9 : Int).toNat)]) = H3 at S3 Lq
      have e9 : (10 : Int) ^ (9 : Int).toNat = 1000000000 := by decide
      have e18 : (10 : Int) ^ (18 : Int).toNat = 1000000000000000000 := by decide
      rw [e18] at h1
      obtain ⟨x, hx, z, rfl, bz⟩ := at4 (x := V.int 0) (a := V.int 0) (b := .int 0) (c := .int (-3)) (d := .int (0 - v * 10 ^ (9 : Int).toNat)) hj (fun x => ∃ z, x = V.int z ∧ Big 1 z) ⟨0, rfl, by unfold Big; omega⟩ ⟨0, rfl, by unfold Big; omega⟩ ⟨-3, rfl, by unfold Big; omega⟩ ⟨_, rfl, by rw [e9]; unfold Big; omega⟩
      refine ⟨.int j, rfl, l1, _, _, _, rfl, rfl, Lq, hx, (by show 1 ≤ sizeLine; decide), fun l hl => ?_⟩
      have B3 := (B2.trans (But.of S3)).trans (But.of (same_new (o := .lst [.int z]) hl))
      have lp := pool_ne (pool_same P2 S3) hl
      exact ⟨l, z, B3, pool_same (pool_same P2 S3) (same_new hl), (B2.trans (But.of S3)).free lp hl, upd_same, bz, rfl⟩
    rintro _ H2 ⟨l, x, B2, P2, l0, hl2, bx, rfl⟩
    have lp := pool_ne P0 l0
    refine ⟨fun σ' H' => ∃ (ns : List Int) (o : Option V), But p H H' ∧ Pool H' p ∧ H' l = some (.lst (ns.map V.int)) ∧ ns.length = m ∧ Fm.Up ns ∧ (∀ n ∈ ns, Big 11 n) ∧ σ' = [some (.ref p), some (.int m), some (.int j), some (.ref l), o],
      ⟨fun k σ' H' => ∃ (ns : List Int) (o : Option V), But p H H' ∧ Pool H' p ∧ H' l = some (.lst (ns.map V.int)) ∧ 1 ≤ ns.length ∧ ns.length ≤ m ∧ Fm.Up ns ∧ (∀ n ∈ ns, Big ns.length n) ∧ k = m - ns.length ∧ σ' = [some (.ref p), some (.int m), some (.int j), some (.ref l), o],
        ⟨_, [x], none, B2, P2, hl2, Nat.le_refl _, m1, List.pairwise_singleton _ _, fun n hn => by rw [List.mem_singleton.mp hn]; exact bx, rfl, rfl⟩, ?_⟩, ?_⟩
    · rintro k σ' H3 ⟨ns, o, B3, P3, hl3, n1, nm, up, big, rfl, rfl⟩
      have L3 : SqL K H3 l (ns.map V.int) := .inl (.inl hl3)
      refine ⟨.ref l, rfl, l, _, rfl, .inl L3, .int m, rfl, _, _, rfl, rfl, _, rfl, ite2 (fun e => ?_) (fun e => ?_)⟩
      · have lt : ns.length < m := by
          have : ((ns.map V.int).length : Int) < (m : Int) := of_decide_eq_true e
          rw [List.length_map] at this
          omega
        refine ⟨fun σ' H' => ∃ (ys : List Int) (o : Option V), But p H H' ∧ Pool H' p ∧ H' l = some (.lst (ys.map V.int)) ∧ ys.length = ns.length + 1 ∧ Fm.Up ys ∧ (∀ n ∈ ys, Big ys.length n) ∧ σ' = [some (.ref p), some (.int m), some (.int j), some (.ref l), o], fun σ' H' h => ?_, ?_⟩
        · obtain ⟨ys, o, a1, a2, a3, a4, a5, a6, a7⟩ := h
          exact ⟨m - ys.length, by omega, ys, o, a1, a2, a3, by omega, by omega, a5, a6, rfl, a7⟩
        refine ⟨fun σ' H' => ∃ z : Int, 1 ≤ z ∧ z ≤ 1000000000000000000000000001 ∧ But p H H' ∧ Pool H' p ∧ H' l = some (.lst (ns.map V.int)) ∧ σ' = [some (.ref p), some (.int m), some (.int j), some (.ref l), some (.int z)], ?_, ?_⟩
        · refine ⟨.ref p, rfl, p, 3, rfl, P3, by decide, by decide, fun v o h0 h1 P4 => ?_⟩
          have B4 := B3.trans (But.at (o := o))
          have hl4 : upd H3 p o l = some (.lst (ns.map V.int)) := by
            rw [upd_ne lp]
            exact hl3
          generalize upd H3 p o = H4 at P4 B4 hl4
          refine ⟨1, v, rfl, rfl, .ref p, rfl, 10, 18, rfl, rfl, ⟨by decide, by decide, by decide⟩, p, _, rfl, P4, by decide, by decide, fun u o' g0 g1 P5 => ?_⟩
          have B5 := B4.trans (But.at (o := o'))
          have hl5 : upd H4 p o' l = some (.lst (ns.map V.int)) := by
            rw [upd_ne lp]
            exact hl4
          generalize upd H4 p o' = H5 at P5 B5 hl5
          refine ⟨10, 9, rfl, rfl, ⟨by decide, by decide, by decide⟩, u, _, rfl, rfl, .inr ⟨by decide, by decide⟩, 1, _, rfl, rfl, (by show 4 ≤ sizeLine; decide), fun l1 hl1 => ?_⟩
          have S6 := same_new (o := .lst [.int 1, .int (1 + v), .int 1, .int (1 + u * 10 ^ (9 : Int).toNat)]) hl1
          have Lq : SqL K (upd H5 l1 (.lst [.int 1, .int (1 + v), .int 1, .int (1 + u * 10 ^ (9 : Int).toNat)])) l1 [.int 1, .int (1 + v), .int 1, .int (1 + u * 10 ^ (9 : Int).toNat)] := sqL_new
          have e9 : (10 : Int) ^ (9 : Int).toNat = 1000000000 := by decide
          have e18 : (10 : Int) ^ (18 : Int).toNat = 1000000000000000000 := by decide
          rw [e18] at g1
          obtain ⟨x, hx, z, rfl, z1, z2⟩ := at4 (x := V.int 1) (a := V.int 1) (b := .int (1 + v)) (c := .int 1) (d := .int (1 + u * 10 ^ (9 : Int).toNat)) hj (fun x => ∃ z, x = V.int z ∧ 1 ≤ z ∧ z ≤ 1000000000000000000000000001) ⟨1, rfl, by omega, by omega⟩ ⟨_, rfl, by omega, by omega⟩ ⟨1, rfl, by omega, by omega⟩ ⟨_, rfl, by rw [e9]; omega, by rw [e9]; omega⟩
          exact ⟨.int j, rfl, l1, _, _, _, rfl, rfl, Lq, hx, z, z1, z2, B5.trans (But.of S6), pool_same P5 S6, S6 _ _ hl5, rfl⟩
        rintro _ H4 ⟨z, z1, z2, B4, P4, hl4, rfl⟩
        obtain ⟨r, y, rfl⟩ : ∃ r y, ns = r ++ [y] := by
          rcases nil_or_snoc ns with h | ⟨r, y, h⟩
          · rw [h] at n1
            simp at n1
          · exact ⟨r, y, h⟩
        have L4 : SqL K H4 l ((r ++ [y]).map V.int) := .inl (.inl hl4)
        have fits : ((r ++ [y]).map V.int).length < sizeLine := by
          rw [List.length_map]
          exact Nat.lt_of_le_of_lt (show _ ≤ 10 by omega) (by decide)
        refine ⟨.ref l, rfl, .inl ⟨rfl, _, L4⟩, .ref l, rfl, 1, rfl, l, _, (-1 : Int), .int y, rfl, rfl, L4, (by rw [List.map_append]; exact atI_last _ _), .int z, rfl, y, z, rfl, rfl, l, _, _, rfl, rfl, hl4, fits, ?_⟩
        have by_ := big y (List.mem_append_right _ List.mem_cons_self)
        refine ⟨r ++ [y] ++ [y + z], _, ?_, pool_same' lp P4, by rw [upd_same, List.map_append (l₂ := [y + z])]; rfl, by rw [List.length_append (bs := [y + z])]; rfl, up_snoc up (by omega), fun n hn => ?_, rfl⟩
        · intro b u nb e
          rw [upd_ne (ne_of_none e l0)]
          exact B4 b u nb e
        · rw [List.length_append (bs := [y + z])]
          rcases List.mem_append.mp hn with hn | hn
          · exact big_mono (big n hn) (by simp only [List.length_append, List.length_cons, List.length_nil]; omega)
          · rw [List.mem_singleton.mp hn]
            unfold Big at *
            simp only [List.length_append, List.length_cons, List.length_nil] at *
            omega
      · have eq : ns.length = m := by
          have : ¬ ((ns.map V.int).length : Int) < (m : Int) := fun z => e (decide_eq_true z)
          rw [List.length_map] at this
          omega
        exact ⟨ns, o, B3, P3, hl3, eq, up, fun n hn => big_mono (big n hn) (by omega), rfl⟩
    rintro _ H3 ⟨ns, o, B3, P3, hl3, nl, up, big, rfl⟩
    exact ⟨.ref l, rfl, q H3 l ns B3 P3 l0 hl3 nl up big⟩
end
end Vf

set_option Elab.async false
set_option linter.all false
set_option maxRecDepth 100000
/-! The frame of a region. -/
namespace Vf
open PySem PySem.Spec PyProof.Rows L2
open C8 (pss_cut tCut)
open Fm (Spans Form Slab Keep)
theorem dpAll_snocG {α : Type} {enc : α → PyData} {K : PySem.W.Frag} {H : Hp} {vs : List V} {ac : List α} {pl : α} (h : DpAll K H vs ((ac ++ [pl]).map enc)) : ∃ ws w, vs = ws ++ [w] ∧ DpAll K H ws (ac.map enc) ∧ Dp K H w (enc pl) := by
  have vl : vs.length = ac.length + 1 := by
    rw [dpAll_len h, List.length_map, List.length_append]
    rfl
  rw [List.map_append] at h
  have h1 := dpAll_take ac.length h
  have h2 := dpAll_drop ac.length h
  rw [List.take_left' (List.length_map ..)] at h1
  rw [List.drop_left' (List.length_map ..)] at h2
  rcases nil_or_snoc vs with rfl | ⟨ws, w, rfl⟩
  · simp at vl
  · have lw : ws.length = ac.length := by
      rw [List.length_append] at vl
      simpa using vl
    rw [List.take_left' lw] at h1
    rw [List.drop_left' lw] at h2
    cases h2 with
    | cons a _ => exact ⟨ws, w, rfl, h1, a⟩
theorem scFrame : FnScope ["self"] ["self"] (defScope sFrame) := ⟨rfl, rfl, rfl, by decide +kernel, rfl, by decide +kernel, by decide +kernel⟩
theorem scFrameOf : FnScope ["slabs", "y1", "y2", "_", "spans"] ["slabs"] (defScope sFrameOf) := ⟨rfl, rfl, rfl, by decide +kernel, rfl, by decide +kernel, by decide +kernel⟩
def y1F (p : Slab) : Int := (p.2.2.headD (0, 0)).1
def y2F (p : Slab) : Int := (p.2.2.getLastD (0, 0)).2
def Least (m : Int) (l : List Int) : Prop := m ∈ l ∧ ∀ y ∈ l, m ≤ y
def Most (m : Int) (l : List Int) : Prop := m ∈ l ∧ ∀ y ∈ l, y ≤ m
/-- what the frame is -/
def IsFrame (H : Hp) (f : Form) (v : V) : Prop := (f = [] → v = .non) ∧ (f ≠ [] → ∃ t p q lo hi, v = .ref t ∧ f.head? = some p ∧ f.getLast? = some q ∧ H t = some (.tup [.int p.1, .int lo, .int q.2.1, .int hi]) ∧ Least lo (f.map y1F) ∧ Most hi (f.map y2F))
def spFrame (K : PySem.W.Frag) (C : Addr) : Sp := fun vs H Q _ => ∃ a f, vs = [.ref a] ∧ Rg K C a H f true ∧ Fm.OkF f ∧ f.length ≤ 1000 ∧ (∀ p ∈ f, p.2.2.length ≤ 1000) ∧ ∀ H' v, Same H H' → IsFrame H' f v → Q v H'
def spFrameOf (K : PySem.W.Frag) : Sp := fun vs H Q _ => ∃ v f, vs = [v] ∧ Dp K H v (encF f) ∧ Fm.OkF f ∧ f.length ≤ 1000 ∧ (∀ p ∈ f, p.2.2.length ≤ 1000) ∧ ∀ H' v, Same H H' → IsFrame H' f v → Q v H'
section
variable {P : Program} {w : World} {K : PySem.W.Frag} {mg : Str → Option Value} {base : Heap}
theorem ok_frameOf {f : Addr} {fd : FuncData} {n : Nat} (F : Fun K "frame_of" "frame_of" sFrameOf f fd) (mi : mg "min" = none) (mx : mg "max" = none) : FnOk P w K mg base CX0 (n + 1) f fd ["slabs"] (spFrameOf K) := by
  have nd := scFrameOf.nd
  refine F.ok scFrameOf (fun vs H Q E h => ?_) (fun cdv A outer st H vs Q E hr h => ?_)
  · obtain ⟨v, f, rfl, _⟩ := h
    rfl
  · obtain ⟨v, f, rfl, d, okf, sz, sz2, q⟩ := h
    refine ⟨_, (pss_cut (ps_if (pt_not (pt_truth (pv 0) (by intro _; rfl)))
  (pss_one (ps_ret pe_non))
  pss_nil)
  (pss_cut (ps_set (i := 1) nd rfl (Or.inl rfl) (pe_callB (cr_min rfl) (by rfl) mi (by decide +kernel) (pa_cons (pe_lc (own := [("_", 3), ("spans", 4)]) (g := (gTup K 3 (gCons (gName 3) (gCons (gName 3) (gCons (gName 4) gNil))))) (tt := tYes) rfl nd (pi_tup (pv 0)) (blkOk_by (N := ["slabs", "y1", "y2", "_", "spans"]) (sc := defScope sFrameOf) (by decide +kernel)) (fun _ _ _ _ _ => (pg_tup (by rfl) (pgs_cons (pg_name (i := 3) nd rfl (Or.inl rfl)) (pgs_cons (pg_name (i := 3) nd rfl (Or.inl rfl)) (pgs_cons (pg_name (i := 4) nd rfl (Or.inl rfl)) pgs_nil))))) (fun _ _ _ _ _ => pts_nil) (fun _ _ _ _ _ => (pe_ix (r := rIxT K) ix_tup (pe_ix (r := rIxT K) ix_tup (pv 4) pe_int (fun _ _ => rfl)) pe_int (fun _ _ => rfl)))) pa_nil)))
  (pss_cut (ps_set (i := 2) nd rfl (Or.inl rfl) (pe_callB (cr_max rfl) (by rfl) mx (by decide +kernel) (pa_cons (pe_lc (own := [("_", 3), ("spans", 4)]) (g := (gTup K 3 (gCons (gName 3) (gCons (gName 3) (gCons (gName 4) gNil))))) (tt := tYes) rfl nd (pi_tup (pv 0)) (blkOk_by (N := ["slabs", "y1", "y2", "_", "spans"]) (sc := defScope sFrameOf) (by decide +kernel)) (fun _ _ _ _ _ => (pg_tup (by rfl) (pgs_cons (pg_name (i := 3) nd rfl (Or.inl rfl)) (pgs_cons (pg_name (i := 3) nd rfl (Or.inl rfl)) (pgs_cons (pg_name (i := 4) nd rfl (Or.inl rfl)) pgs_nil))))) (fun _ _ _ _ _ => pts_nil) (fun _ _ _ _ _ => (pe_ix (r := rIxT K) ix_tup (pe_ix (r := rIxT K) ix_tup (pv 4) (pe_un un_neg pe_int) (fun _ _ => rfl)) pe_int (fun _ _ => rfl)))) pa_nil)))
  (pss_one (ps_ret (pe_tup (pa_cons (pe_ix ix_tup (pe_ix ix_tup (pv 0) pe_int (fun _ _ => rfl)) pe_int (fun _ _ => rfl)) (pa_cons (pv 1) (pa_cons (pe_ix ix_tup (pe_ix ix_tup (pv 0) (pe_un un_neg pe_int) (fun _ _ => rfl)) pe_int (fun _ _ => rfl)) (pa_cons (pv 2) pa_nil)))))))))), ?_⟩
    obtain ⟨A0, xs, rfl, hs, ha⟩ := dp_tup d
    have len : xs.length = f.length := (dpAll_len ha).trans (List.length_map ..)
    refine ⟨fun σ' H' => H' = H ∧ f ≠ [] ∧ σ' = [some (.ref A0), none, none, none, none], ?_, ?_⟩
    · refine ⟨.ref A0, rfl, !xs.isEmpty, .inr (.inl ⟨_, hs, rfl⟩), ?_⟩
      cases xs with
      | nil =>
        have : f = [] := List.eq_nil_of_length_eq_zero (len.symm.trans rfl)
        exact q H .non (fun _ _ e => e) ⟨fun _ => rfl, fun z => absurd this z⟩
      | cons x xs => exact ⟨rfl, fun z => by rw [z] at len; simp at len, rfl⟩
    rintro σ2 H2 ⟨rfl, ne, rfl⟩
    refine ⟨fun σ' H' => ∃ lo, Same H2 H' ∧ Least lo (f.map y1F) ∧ σ' = [some (.ref A0), some (.int lo), none, none, none], ?_, ?_⟩
    · rw [tAsg_eq, tCB_eq, tCons_eq]
      refine ⟨.ref A0, rfl, A0, rfl, ⟨_, hs⟩, fun D hD => ?_⟩
      refine wk xs.length (fun i H' => Same H2 H' ∧ H' D = some (.lst (((f.take i).map y1F).map V.int))) ⟨same_new hD, upd_same⟩ (fun i H3 hi r => ?_) (fun H3 r => ?_)
      · obtain ⟨S3, hL⟩ := r
        refine tt_go (sqT_same S3 hs) hi (fun z hz => ?_)
        obtain ⟨d, hd1, hd2⟩ := dpAll_get ha hz
        have hif : i < f.length := by omega
        have ed : d = encL f[i] := by
          rw [List.getElem?_map, List.getElem?_eq_getElem hif] at hd1
          exact (Option.some.inj hd1).symm
        subst ed
        obtain ⟨t, u, rfl, ht, hu⟩ := dp_slab (dp_same S3 hd2)
        obtain ⟨p, us, rfl, hp, hus⟩ := dp_tup hu
        have ok2 := (okf.good f[i] (List.getElem_mem hif)).2.2
        obtain ⟨y, rest, hy⟩ : ∃ y rest, f[i].2.2 = y :: rest := by
          cases z : f[i].2.2 with
          | nil => exact absurd z ok2
          | cons y rest => exact ⟨y, rest, rfl⟩
        rw [hy] at hus
        match us, hus with
        | w :: us, .cons dw _ =>
        obtain ⟨r, rfl, hr⟩ := dp_pair dw
        have ev : y.1 = y1F f[i] := by
          unfold y1F
          rw [hy]
          rfl
        refine ⟨t, _, rfl, ht, rfl, _, _, rfl, _, _, rfl, _, _, rfl, rfl, rfl, .ref p, rfl, p, _, _, .ref r, rfl, rfl, hp, atI_nat (j := 0) rfl, r, _, _, .int y.1, rfl, rfl, hr, atI_nat (j := 0) rfl, ?_⟩
        refine ⟨_, hL, ?_, same_grow S3 hD, ?_⟩
        · rw [List.length_map, List.length_map, List.length_take]
          exact Nat.lt_of_le_of_lt (show _ ≤ 1000 by omega) (by decide)
        · rw [upd_same, List.take_add_one, List.getElem?_eq_getElem hif, List.map_append, List.map_append]
          exact congrArg (fun z => some (HO.lst (_ ++ [V.int z]))) ev
      · obtain ⟨S3, hL⟩ := r
        rw [len, List.take_length] at hL
        refine ⟨tt_end (sqT_same S3 hs), D, f.map y1F, rfl, .inl (.inl hL), ?_, fun m h1 h2 => ⟨m, S3, ⟨h1, h2⟩, rfl⟩⟩
        rw [List.length_map]
        exact List.length_pos_iff.mpr ne
    rintro _ H4 ⟨lo, S4, hlo, rfl⟩
    refine ⟨fun σ' H' => ∃ hi, Same H2 H' ∧ Most hi (f.map y2F) ∧ σ' = [some (.ref A0), some (.int lo), some (.int hi), none, none], ?_, ?_⟩
    · rw [tAsg_eq, tCB_eq, tCons_eq]
      refine ⟨.ref A0, rfl, A0, rfl, ⟨_, sqT_same S4 hs⟩, fun D hD => ?_⟩
      have hD2 := S4.free hD
      refine wk xs.length (fun i H' => Same H2 H' ∧ H' D = some (.lst (((f.take i).map y2F).map V.int))) ⟨S4.trans (same_new hD), upd_same⟩ (fun i H3 hi r => ?_) (fun H3 r => ?_)
      · obtain ⟨S3, hL⟩ := r
        refine tt_go (sqT_same S3 hs) hi (fun z hz => ?_)
        obtain ⟨d, hd1, hd2⟩ := dpAll_get ha hz
        have hif : i < f.length := by omega
        have ed : d = encL f[i] := by
          rw [List.getElem?_map, List.getElem?_eq_getElem hif] at hd1
          exact (Option.some.inj hd1).symm
        subst ed
        obtain ⟨t, u, rfl, ht, hu⟩ := dp_slab (dp_same S3 hd2)
        obtain ⟨p, us, rfl, hp, hus⟩ := dp_tup hu
        have ok2 := (okf.good f[i] (List.getElem_mem hif)).2.2
        obtain ⟨init, y, hy⟩ : ∃ init y, f[i].2.2 = init ++ [y] := by
          rcases nil_or_snoc f[i].2.2 with z | ⟨r, z, e⟩
          · exact absurd z ok2
          · exact ⟨r, z, e⟩
        rw [hy] at hus
        obtain ⟨ws, w, rfl, _, dw⟩ := dpAll_snocG hus
        obtain ⟨r, rfl, hr⟩ := dp_pair dw
        have ev : y.2 = y2F f[i] := by
          unfold y2F
          rw [hy]
          simp
        refine ⟨t, _, rfl, ht, rfl, _, _, rfl, _, _, rfl, _, _, rfl, rfl, rfl, .ref p, rfl, 1, rfl, p, _, (-1 : Int), .ref r, rfl, rfl, hp, atI_last _ _, r, _, _, .int y.2, rfl, rfl, hr, atI_nat (j := 1) rfl, ?_⟩
        refine ⟨_, hL, ?_, same_grow S3 hD2, ?_⟩
        · rw [List.length_map, List.length_map, List.length_take]
          exact Nat.lt_of_le_of_lt (show _ ≤ 1000 by omega) (by decide)
        · rw [upd_same, List.take_add_one, List.getElem?_eq_getElem hif, List.map_append, List.map_append]
          exact congrArg (fun z => some (HO.lst (_ ++ [V.int z]))) ev
      · obtain ⟨S3, hL⟩ := r
        rw [len, List.take_length] at hL
        refine ⟨tt_end (sqT_same S3 hs), D, f.map y2F, rfl, .inl (.inl hL), ?_, fun m h1 h2 => ⟨m, S3, ⟨h1, h2⟩, rfl⟩⟩
        rw [List.length_map]
        exact List.length_pos_iff.mpr ne
    rintro _ H5 ⟨hi, S5, hhi, rfl⟩
    have hs5 := sqT_same S5 hs
    have ha5 := dpAll_same S5 ha
    obtain ⟨p, rest, hf⟩ : ∃ p rest, f = p :: rest := by
      cases z : f with
      | nil => exact absurd z ne
      | cons p rest => exact ⟨p, rest, rfl⟩
    obtain ⟨init, l, hf2⟩ : ∃ init l, f = init ++ [l] := by
      rcases nil_or_snoc f with z | ⟨r, z, e⟩
      · exact absurd z ne
      · exact ⟨r, z, e⟩
    obtain ⟨x0, hx0, dx0⟩ : ∃ x0, xs[0]? = some x0 ∧ Dp K H5 x0 (encL p) := by
      obtain ⟨x0, h1, h2⟩ := dpAll_at ha5 (i := 0) (d := encL p) (by rw [hf]; rfl)
      exact ⟨x0, h1, h2⟩
    obtain ⟨t0, u0, rfl, ht0, _⟩ := dp_slab dx0
    have ha6 := ha5
    rw [hf2] at ha6
    obtain ⟨ws, w, ex, _, dw⟩ := dpAll_snocG ha6
    obtain ⟨t1, u1, rfl, ht1, _⟩ := dp_slab dw
    refine ⟨.ref A0, rfl, A0, _, _, .ref t0, rfl, rfl, hs5, atI_nat (j := 0) hx0, t0, _, _, .int p.1, rfl, rfl, ht0, atI_nat (j := 0) rfl, .int lo, rfl, ?_⟩
    refine ⟨.ref A0, rfl, 1, rfl, A0, _, (-1 : Int), .ref t1, rfl, rfl, hs5, (by rw [ex]; exact atI_last _ _), t1, _, _, .int l.2.1, rfl, rfl, ht1, atI_nat (j := 1) rfl, .int hi, rfl, (by show 4 ≤ sizeLine; decide), fun t ht => ?_⟩
    refine q _ _ (S5.trans (same_new ht)) ⟨fun z => absurd z ne, fun _ => ⟨t, p, l, lo, hi, rfl, by rw [hf]; rfl, by rw [hf2]; simp, upd_same, hlo, hhi⟩⟩
theorem ok_frame {f C fO : Addr} {fd dO : FuncData} {n : Nat} (F : Fun K "frame" "Region.frame" sFrame f fd) (T : RTxt K mg C) (GO : FnOk P w K mg base CX0 n fO dO ["slabs"] (spFrameOf K)) (kO : PySem.W.keepIn K (.ref fO) = true) (bO : Binds K dO ["slabs"] []) (gO : mg "frame_of" = some (.ref fO)) : FnOk P w K mg base CX0 (n + 1) f fd ["self"] (spFrame K C) := by
  refine F.ok scFrame (fun vs H Q E h => ?_) (fun cdv A outer st H vs Q E hr h => ?_)
  · obtain ⟨a, f, rfl, _⟩ := h
    rfl
  · obtain ⟨a, f, rfl, ⟨dx, v, eA, d⟩, okf, sz, sz2, q⟩ := h
    refine ⟨_, (pss_cut (ps_if (pt_not (pt_val (pe_fld (pv 0) rfl)))
  (pss_one ps_no)
  pss_nil)
  (pss_one (ps_ret (pe_call GO hr (by rfl) gO kO bO .nil pass0 (pa_cons (pe_fld (pv 0) rfl) pa_nil))))), ?_⟩
    refine ⟨fun σ' H' => H' = H ∧ σ' = [some (.ref a)], ⟨.ref a, rfl, a, C, dx, _, .bl true, rfl, eA, T.cl, T.nB, rf_b _ _, true, rfl, rfl, rfl⟩, ?_⟩
    rintro σ1 H1 ⟨rfl, rfl⟩
    exact ⟨.ref a, rfl, a, C, dx, _, v, rfl, eA, T.cl, T.nS, rf_s _ _, v, f, rfl, d, okf, sz, sz2, q⟩
end
end Vf

set_option Elab.async false
set_option linter.all false
set_option maxRecDepth 100000
/-! Region.of. -/
namespace Vf
open PySem PySem.Spec PyProof.Rows L2
open C8 (pss_cut tCut)
open Fm (Spans Form Slab Keep)
/-- fe(e, ..), fe an expression that gives the class at C -/
def tMakeE (C : Addr) (sp : Sp) (E : XK) (tf : TE) (t : TA) : TE := fun σ H Q => tf σ H fun y H1 => y = .ref C ∧ t σ H1 fun vs H2 => ∀ x dx, H2 x = none → H2 dx = none → dx ≠ x →
  sp (.ref x :: vs) (upd (upd H2 dx (.own x)) x (.ins C dx [])) (fun v H3 => v = .non ∧ Q (.ref x) H3) E
theorem pe_makeE {X : Cx} {CX : CXT} {k : Nat} {f C : Addr} {sp : Sp} {E : XK} {e fe : Expr} {es : List Expr} {tf : TE} {t : TA} {pos : Pos} (hf : PE X fe tf) (M : L2.Mk X.K C f) (F : FnR X.prog X.w X.K X.mg X.base CX k f sp) (hr : Room (k + 1) X.A) (hx : Passes CX X E) (ha : PA X (e :: es) t)
    (ht : eval (.Call fe (e :: es) [] pos) X.env = (do callWith pos (← eval fe X.env) [] (backTo pos (starEach (e :: es) X.env)) (backToKw pos (keywordEach [] X.env))) := by rfl)
    (he : starEach (e :: es) X.env = (false, eval e X.env) :: starEach es X.env := by rfl) (hpl : (backTo pos (starEach es X.env)).any (·.1) = false := by rfl) : PE X (.Call fe (e :: es) [] pos) (tMakeE C sp E tf t) := by
  refine ⟨fun pins s σ H Q I h => ?_⟩
  refine Call_ (thn (hf.run pins s σ H _ I h) fun u s1 ⟨y, H1, I1, ry, ey, q⟩ => ?_) ht
  subst ey
  obtain rfl : u = Value.ref C := ry
  refine PySem.W.callWith_K (h₀ := X.base) I.ok.mod.kin M.kp (thn (ha.run pos pins s1 σ H1 _ I1 q) fun us s2 ⟨vs, H2, I2, r, q2⟩ => ⟨I2.kIn, ?_⟩) he hpl
  exact StX.run_makeR M F hr hx I2 r q2
theorem scOf : FnScope ["cls", "boxes", "box"] ([("cls" : Str)] ++ [("boxes" : Str)]) (defScope sOf) := ⟨rfl, rfl, rfl, by decide +kernel, rfl, by decide +kernel, by decide +kernel⟩
section
variable {P : Program} {w : World} {K : PySem.W.Frag} {mg : Str → Option Value} {base : Heap}
/-- the boxes one by one, as values -/
def AreBoxes (K : PySem.W.Frag) (H : Hp) (vs : List V) (bs : List (Int × Int × Int × Int)) : Prop := DpAll K H vs (bs.map encB) ∧ (∀ b ∈ bs, okB b) ∧ BFew bs
def spOf (K : PySem.W.Frag) (C : Addr) : Sp := fun vs H Q _ => ∃ (ws : List V) (bs : List (Int × Int × Int × Int)), vs = .ref C :: ws ∧ AreBoxes K H ws bs ∧ ∀ H' x, Same H H' → Rg K C x H' (formB bs) true → Q (.ref x) H'
theorem isBox_ok {b : Int × Int × Int × Int} (h : okB b) : isBox (encB b) = true := by
  show (decide (b.1 < b.2.2.1) && decide (b.2.1 < b.2.2.2)) = true
  rw [decide_eq_true h.1, decide_eq_true h.2]
  rfl
theorem ok_of {f C fI fX fB : Addr} {fd dI dX dB : FuncData} {n : Nat} (F : Fun K "of" "Region.of" sOf f fd) (T : RTxt K mg C) (M : L2.Mk K C fI)
    (GI : FnOk P w K mg base CX0 n fI dI ["self", "slabs", "is_bounded"] (spInit K C)) (bI : Binds K dI ["self", "slabs", "is_bounded"] [])
    (GX : FnOk P w K mg base CX0 (n + 1) fX dX ["thing"] (spBox K)) (kX : PySem.W.keepIn K (.ref fX) = true) (bX : Binds K dX ["thing"] []) (gX : mg "is_box" = some (.ref fX))
    (GB : FnOk P w K mg base CX0 (n + 1) fB dB ["boxes"] (spBoxes K)) (kB : PySem.W.keepIn K (.ref fB) = true) (bB : Binds K dB ["boxes"] []) (gB : mg "form_of_boxes" = some (.ref fB)) :
    FnR P w K mg base CX0 (n + 2) f (spOf K C) := by
  have nd := scOf.nd
  obtain ⟨oc, od, kV, doc, pm, an, cdv, ct, osl, rfl, lk, hcd⟩ := F.ex
  have R := StX.fn_star (CX := CX0) (P := P) (w := w) (mg := mg) (base := base) (k := n + 1) (ps := ["cls"]) (pv := "boxes") (sp := fun vs H Q _ => ∃ (p : Addr) (ws : List V) (bs : List (Int × Int × Int × Int)), vs = [.ref C, .ref p] ∧ H p = some (.tup ws) ∧ AreBoxes K H ws bs ∧ ∀ H' x, Same H H' → Rg K C x H' (formB bs) true → Q (.ref x) H') lk hcd scOf StX.cxUp_none
    (StX.bind_star1 (p1 := "cls") (pv := "boxes") (B := fun us => bindArgs (PySem.W.fnOf "of" "Region.of" (defArgs sOf) (defBody sOf) (defScope sOf) .none kV doc pm an cdv ct) ⟨us, []⟩) (fun a => rfl) (fun a r rs => rfl)) (fun A outer s H vs Q E hr h => ?_)
  · refine R.imp fun vs H Q E h => ?_
    obtain ⟨ws, bs, rfl, ⟨hw, ok, sz⟩, q⟩ := h
    refine ⟨[.ref C], ws, rfl, rfl, ?_, fun p hp => ⟨p, ws, bs, rfl, upd_same, ⟨dpAll_same (same_new hp) hw, ok, sz⟩, fun H' x S R => q H' x ((same_new hp).trans S) R⟩⟩
    have := dpAll_len hw
    rw [List.length_map] at this
    have := sz.1
    exact Nat.le_trans (show ws.length ≤ 20000 by omega) (by decide)
  · obtain ⟨p, ws, bs, rfl, hp, ⟨hw, ok, sz⟩, q⟩ := h
    refine ⟨_, PSs.nox (pss_cut (ps_for PassesOwn.never rfl (pi_tup (pv 1)) (pg_name (i := 2) nd rfl (Or.inl rfl))
      (pss_one (ps_if (pt_not (pt_val (pe_call GX hr (by rfl) gX kX bX .nil pass0 (pa_cons (pv 2) pa_nil)))) (pss_one ps_no) pss_nil)))
      (pss_one (ps_ret (pe_makeE (pv 0) M (FnOk.raw GI bI .nil) hr pass0 (pa_cons (pe_call GB hr (by rfl) gB kB bB .nil pass0 (pa_cons (pv 1) pa_nil)) (pa_cons pe_bl pa_nil)))))), ?_⟩
    have hp' : SqT K H p ws := .inl (.inl hp)
    refine ⟨fun σ' H' => Same H H' ∧ ∃ o, σ' = [some (.ref C), some (.ref p), o], ⟨.ref p, rfl, p, rfl, ⟨_, hp'⟩, wkS ws.length (fun i σ H' => Same H H' ∧ ∃ o, σ = [some (.ref C), some (.ref p), o]) ⟨fun _ _ e => e, none, rfl⟩ (fun i σ H2 hi r => ?_) (fun σ H2 r => ?_)⟩, ?_⟩
    · obtain ⟨S2, o, rfl⟩ := r
      refine tt_go (sqT_same S2 hp') hi (fun v hv => ?_)
      obtain ⟨d, hd1, hd2⟩ := dpAll_get hw hv
      rw [List.getElem?_map] at hd1
      obtain ⟨b, hb, rfl⟩ := Option.map_eq_some_iff.mp hd1
      refine ⟨v, rfl, v, encB b, rfl, .inl (dp_same S2 hd2), ?_, fun H3 S3 => ?_⟩
      · intro ds e
        cases e
        exact Nat.le_trans (show 4 ≤ 4 from Nat.le_refl _) (by decide)
      · rw [isBox_ok (ok b (List.mem_of_getElem? hb))]
        exact ⟨true, rfl, S2.trans S3, _, rfl⟩
    · obtain ⟨S2, o, rfl⟩ := r
      exact ⟨tt_end (sqT_same S2 hp'), S2, o, rfl⟩
    rintro _ H2 ⟨S2, o, rfl⟩
    refine ⟨.ref C, rfl, rfl, .ref p, rfl, .ref p, bs, rfl, .tup (sqT_same S2 hp') (dpAll_same S2 hw), ok, sz, fun H3 u S3 D3 => ?_⟩
    exact mk_rg D3 fun H' x S' R => q H' x ((S2.trans S3).trans S') R
end
end Vf

set_option Elab.async false
set_option linter.all false
set_option maxRecDepth 100000
/-! for in a generator's body. -/
namespace Vf
open PySem PySem.Spec PyProof.Rows L2
section
variable {prog : Program} {w : World} {A : Around} {R : GenEnd} {Y : Protocol} {n : Nat} {s₀ : Shared} {fs : List Frame} {s : Shared} {env : Env} {c : Code}
theorem seg_bw {M : Model} {α β : Type} {m : Sem α} {K : α → Sem β} {K' : β → Sem PySem.Fin} {H' : Value → Sem PySem.Fin} {gd lv}
    (h : wpAny M (A.over c fs) m (fun a s' => Seg M A R Y n s₀ c ((K a).wrap K' H' gd lv) fs s') (fun x s' => Seg M A R Y n s₀ c (H' x) fs s') s) : Seg M A R Y n s₀ c ((m >>= K).wrap K' H' gd lv) fs s := by
  rw [Sem.bind_eq_wrap', Sem.wrap_wrap]; exact seg_wrap h
/-- what a loop does with an exception of its own -/
def hh (env : Env) (e : Value) : Sem PySem.Fin := (do noteFrame e env; theTreesLotGoes e : Sem Unit).wrap (fun _ => .raise e) .raise id id
theorem seg_forLoop {target : Expr} {body : List Stmt} {it : Value}
    (h : wpAny (model prog w) (A.over (.forLoop target it body [] env) fs) (pyNext it) (fun r s' => match r with
        | none => Seg (model prog w) A R Y n s₀ (.block [] env) (leafOf (.ok .next)) fs s'
        | some v => wpAny (model prog w) (A.over (.forLoop target it body [] env) fs) (letOwnedTupleGo target it v) (fun _ s1 => wpAny (model prog w) (A.over (.forLoop target it body [] env) fs) (assign target env v) (fun _ s2 =>
            Seg (model prog w) A R Y n s₀ (.forLoop target it body [] env) ((execs body env).wrap (fun f => match f with
              | .next | .cont => .pure (.again (.forLoop target it body [] env))
              | .brk => .pure (.done .next)
              | .ret v => .pure (.done (.ret v))) (hh env) id id) fs s2)
            (fun x s' => Seg (model prog w) A R Y n s₀ (.forLoop target it body [] env) (hh env x) fs s') s1)
            (fun x s' => Seg (model prog w) A R Y n s₀ (.forLoop target it body [] env) (hh env x) fs s') s')
      (fun x s' => Seg (model prog w) A R Y n s₀ (.forLoop target it body [] env) (hh env x) fs s') s) :
    Seg (model prog w) A R Y n s₀ (.forLoop target it body [] env) ((model prog w).den (.forLoop target it body [] env)) fs s := by
  show Seg _ A R Y n s₀ _ ((forTurn target it body [] env).onRaise (fun x => do noteFrame x env; theTreesLotGoes x)) fs s
  unfold forTurn
  rw [Sem.onRaise_eq_wrap]
  have hhe : ∀ x, ((do noteFrame x env; theTreesLotGoes x : Sem Unit).bind fun _ => (.raise x : Sem PySem.Fin)) = hh env x := fun x => by
    rw [Sem.bind_eq_wrap]
    rfl
  simp only [hhe]
  refine seg_bw (wpAny_standAt (seg_bw (wpAny_onRaise (wpAny_mono h (fun r s1 hr => ?_) fun _ _ h' => wpAny_standAt h'))))
  cases r with
  | none => exact seg_again rfl hr
  | some v =>
    refine seg_bw (wpAny_mono hr (fun _ s1 h1 => seg_bw (wpAny_mono h1 (fun _ s2 h2 => ?_) fun _ _ h' => h')) fun _ _ h' => h')
    rw [Sem.bind_eq_wrap', Sem.wrap_wrap]
    refine cast (congrArg (fun t => Seg (model prog w) A R Y n s₀ (.forLoop target it body [] env) t fs s2) ?_) h2
    refine Sem.wrap_congr _ _ _ (fun f => ?_) fun e => rfl
    cases f <;> rfl
theorem seg_runOwn {c' : Code} {K : Flow → Sem PySem.Fin} {H : Value → Sem PySem.Fin} {gd : Bool → Bool} {lv : List Value → List Value} {M : Model}
    (h : ∀ p, Seg M A R Y n s₀ c' (M.den c') (.ret (fun r => ((match r with | .ok f => (.pure f : Sem Flow) | .error e => .raise e).onRaise (cameBack env)).wrap K H gd lv) none (gd false) (lv []) c p [] :: fs) s) :
    Seg M A R Y n s₀ c ((runOwn c' env).wrap K H gd lv) fs s := seg_call h
theorem seg_For {target iter : Expr} {body : List Stmt} {pos : Pos} {K : Flow → Sem PySem.Fin} {H : Value → Sem PySem.Fin} {gd : Bool → Bool} {lv : List Value → List Value} {M : Model} (hs : ∀ x, foldedSetIterable iter env x = pure x)
    (h : wpAny M (A.over c fs) (eval iter env) (fun x s1 => wpAny M (A.over c fs) (pyIter x) (fun it s2 => ∀ p, Seg M A R Y n s₀ (.forLoop target it body [] env) (M.den (.forLoop target it body [] env))
      (.ret (fun r => ((match r with | .ok f => (.pure f : Sem Flow) | .error e => .raise e).onRaise (cameBack env)).wrap K H gd lv) none (gd false) (lv []) c p [] :: fs) s2)
      (fun x s' => Seg M A R Y n s₀ c (H x) fs s') s1) (fun x s' => Seg M A R Y n s₀ c (H x) fs s') s) :
    Seg M A R Y n s₀ c ((exec (.For target iter body [] pos) env).wrap K H gd lv) fs s := by
  rw [exec_For]
  refine seg_bw (wpAny_standAt (seg_bw (wpAny_mono h (fun x s1 h1 => ?_) fun _ _ h' => h')))
  refine seg_bw (wpAny_of_eq (hs x) (seg_bw (wpAny_standAt (seg_bw (wpAny_holding (wpAny_mono h1 (fun it s2 h2 => seg_runOwn h2) fun _ _ h' => h'))))))
end
/-- for, in a generator: ys is what has come out -/
def tGFor (wi : TI) (g : TG) (tb : TGn) : TGn := fun D ys σ H => wi σ H fun J H1 => ∃ W : Nat → Nat → List V → L2.St → Hp → Prop, (∃ m, W 0 m ys σ H1) ∧ ∀ i m ys σ H, W i m ys σ H →
  (J.stop i H ∧ D.nx ys σ H) ∨ (J.go i H ∧ ∃ N : List V → L2.St → Hp → Prop, (∀ ys' σ' H', N ys' σ' H' → ∃ m', m' < m ∧ W (i + 1) m' ys' σ' H') ∧ ∀ x H', J.yld i H x H' → g x σ H' fun σ2 H2 => tb { D with nx := N, ct := N, bk := D.nx } ys σ2 H2)
section
variable {X : Cx}
theorem gs_for {tg iter : Expr} {body : List Stmt} {pos : Pos} {wi : TI} {g : TG} {tb : TGn} (hp : PassesOwn (model X.prog X.w) X.A X.env X.xe) (hc : X.calm = true) (hi : PI X tg iter wi) (hg : PG X tg g) (hb : GSs X body tb)
    (hs : ∀ x, foldedSetIterable iter X.env x = pure x := by intro _; rfl) : GS X (.For tg iter body [] pos) (tGFor wi g tb) := by
  refine ⟨fun A S ip R n ys s₀ c fs K J gd lv s σ H D gc hn k hI ht => ?_⟩
  obtain ⟨acc, cc, r, I⟩ := hI
  refine seg_For hs ?_
  rw [gc.over]
  refine wpAny_mono (hi.run _ s σ H _ I ht) (fun v s1 h1 => wpAny_mono h1 (fun itv s2 h2 => ?_) fun x s' hx => k.exc n s₀ x s' hx) fun x s' hx => k.exc n s₀ x s' hx
  obtain ⟨it, fp, tn, Jt, H2, rfl, I2, T, st2, f2, W, ⟨m0, w0⟩, turn⟩ := h2
  intro p
  have gl := fun (kk : Result → Sem PySem.Fin) (ip' : List (Addr × Obj)) (hip : ∀ p ∈ ip', p.1 ≠ S) => gc_loop (ip := ip') (k := kk) (c' := .forLoop tg (.ref it) body [] X.env) (l := lv []) (kp := []) (p := p) ⟨gc.pn, hip, gc.apart, gc.over, gc.split, gc.guard, gc.gd⟩ rfl rfl
  have stat : ∀ {H' : Hp} {o : Obj}, (∀ b ∈ fp, H' b = none) → ∀ b ∈ fp, FpOk X ((S, o) :: ip) H' b := fun {H' o} hn b hb => by
    obtain ⟨_, a1, a2, a3, a4, a5⟩ := f2 b hb
    refine ⟨hn b hb, a1, a2, a3, a4, fun q hq => ?_⟩
    rcases List.mem_append.mp hq with hq | hq
    · exact a5 q (List.mem_append_left _ hq)
    · rcases List.mem_cons.mp hq with e | hq
      · rw [e]
        exact a5 (S, lstObj acc cc) (List.mem_append_right _ List.mem_cons_self)
      · exact a5 q (List.mem_append_right _ (List.mem_cons_of_mem _ hq))
  have loop : ∀ (m n i : Nat) (ys : List V) (s₀ s : Shared) (σ : L2.St) (H : Hp), n + ys.length = sizeLine → W i m ys σ H → GI X S ip ys σ H s → tn i s.heap → (∀ b ∈ fp, H b = none) →
      Seg (model X.prog X.w) A R (GY X S) n s₀ (.forLoop tg (.ref it) body [] X.env) ((model X.prog X.w).den (.forLoop tg (.ref it) body [] X.env))
        (.ret (fun r => ((match r with | .ok f => (.pure f : Sem Flow) | .error e => .raise e).onRaise (cameBack X.env)).wrap K J gd lv) none (gd false) (lv []) c p [] :: fs) s := by
    intro m
    induction m using Nat.strongRecOn with
    | ind m ih =>
      intro n i ys s₀ s σ H hn w hI st fr
      have ee : ∀ (n : Nat) (s₀ : Shared) (x : Value) (s' : Shared), X.xe x s' → Seg (model X.prog X.w) A R (GY X S) n s₀ (.forLoop tg (.ref it) body [] X.env) (hh X.env x)
          (.ret (fun r => ((match r with | .ok f => (.pure f : Sem Flow) | .error e => .raise e).onRaise (cameBack X.env)).wrap K J gd lv) none (gd false) (lv []) c p [] :: fs) s' := fun n s₀ x s' hx => by
        refine seg_wrap ?_
        rw [(gl _ ip gc.ip).over]
        refine wpAny_bind (wpAny_mono (hp x s' hx) (fun _ s'' hcb => wpAny_theTreesLotGoes ?_) fun y s'' hcb => ?_)
        · exact seg_leaf (.error x) (seg_cameBack gc k hcb)
        · exact seg_leaf (.error y) (seg_cameBack gc k hcb)
      obtain ⟨acc3, cc3, r3, I3⟩ := hI
      refine seg_forLoop ?_
      rw [(gl _ ip gc.ip).over]
      rcases turn i m ys σ H w with ⟨stop, qn⟩ | ⟨go, N, hN, step⟩
      · refine wpAny_mono (T.done X rfl rfl rfl hc i _ s σ H X.xe I3 (stat fr) st stop) (fun r s4 h4 => ?_) fun x s' hx => ee n s₀ x s' hx
        obtain ⟨rfl, I4⟩ := h4
        exact seg_leaf (.ok .next) (k.ok n ys s₀ s4 .next hn ⟨σ, H, ⟨acc3, cc3, r3, I4⟩, qn⟩)
      · refine wpAny_mono (T.item X rfl rfl rfl hc i _ s σ H X.xe I3 (stat fr) st go) (fun r s4 h4 => ?_) fun x s' hx => ee n s₀ x s' hx
        obtain ⟨u, rfl, h4⟩ := h4
        refine wpAny_mono h4 (fun _ s5 h5 => ?_) fun x s' hx => ee n s₀ x s' hx
        obtain ⟨x, H5, I5, r5, y5, st5, fr5⟩ := h5
        have I5' := I5.pinned (stat fr5) (T.obj _ _ st5)
        refine wpAny_mono (hg.run _ s5 σ H5 x u _ I5' r5 (step x H5 y5)) (fun _ s6 h6 => ?_) fun x s' hx => ee n s₀ x s' hx
        obtain ⟨σ6, H6, I6, q6⟩ := h6
        have ipS : ∀ q ∈ ip ++ pinsAt fp s5.heap, q.1 ≠ S := fun q hq => by
          rcases List.mem_append.mp hq with hq | hq
          · exact gc.ip q hq
          · have := (stat (o := lstObj acc cc) fr5 q.1 (of_pinsAt hq).1).2.2.2.2.2 (S, lstObj acc cc) (List.mem_append_right _ List.mem_cons_self)
            exact fun z => this z.symm
        refine hb.run A S (ip ++ pinsAt fp s5.heap) R n ys s₀ _ _ _ _ id id s6 σ6 H6 { D with nx := N, ct := N, bk := D.nx } (gl _ _ ipS) hn ⟨fun n' ys' s₀' s7 f hn' hs => ?_, fun n' s₀' x s7 hx => ee n' s₀' x s7 hx⟩ ⟨acc3, cc3, r3, I6⟩ q6
        have again : ∀ {σ7 : L2.St} {H7 : Hp}, GI X S (ip ++ pinsAt fp s5.heap) ys' σ7 H7 s7 → N ys' σ7 H7 → Seg (model X.prog X.w) A R (GY X S) n' s₀' (.forLoop tg (.ref it) body [] X.env) (.pure (.again (.forLoop tg (.ref it) body [] X.env)))
            (.ret (fun r => ((match r with | .ok f => (.pure f : Sem Flow) | .error e => .raise e).onRaise (cameBack X.env)).wrap K J gd lv) none (gd false) (lv []) c p [] :: fs) s7 := fun {σ7 H7} hI7 n7 => by
          obtain ⟨acc7, cc7, r7, I7⟩ := hI7
          obtain ⟨m', hm, w7⟩ := hN ys' σ7 H7 n7
          have I7u : Inv X (((S, lstObj acc7 cc7) :: ip) ++ pinsAt fp s5.heap) σ7 H7 s7 := I7
          refine seg_again rfl (ih m' hm n' (i + 1) ys' s₀' s7 σ7 H7 hn' w7 ⟨acc7, cc7, r7, I7u.unpinned⟩ (T.keep _ _ _ st5 fun b hb o e => (I7u.pin (b, o) (List.mem_append_right _ (List.mem_append_right _ (mem_pinsAt hb e)))).1) fun b hb => ?_)
          obtain ⟨o, e, d⟩ := T.obj _ _ st5 b hb
          exact (I7u.pin (b, o) (List.mem_append_right _ (List.mem_append_right _ (mem_pinsAt hb e)))).2.1
        have un : ∀ {σ7 : L2.St} {H7 : Hp}, GI X S (ip ++ pinsAt fp s5.heap) ys' σ7 H7 s7 → GI X S ip ys' σ7 H7 s7 := fun {σ7 H7} hI7 => by
          obtain ⟨acc7, cc7, r7, I7⟩ := hI7
          have I7u : Inv X (((S, lstObj acc7 cc7) :: ip) ++ pinsAt fp s5.heap) σ7 H7 s7 := I7
          exact ⟨acc7, cc7, r7, I7u.unpinned⟩
        cases f with
        | next =>
          obtain ⟨σ7, H7, I7, n7⟩ := hs
          exact again I7 n7
        | cont =>
          obtain ⟨σ7, H7, I7, n7⟩ := hs
          exact again I7 n7
        | brk =>
          obtain ⟨σ7, H7, I7, q7⟩ := hs
          exact seg_leaf (.ok .next) (k.ok n' ys' s₀' s7 .next hn' ⟨σ7, H7, un I7, q7⟩)
        | ret v =>
          obtain ⟨x7, σ7, H7, I7, r7, q7⟩ := hs
          exact seg_leaf (.ok (.ret v)) (k.ok n' ys' s₀' s7 (.ret v) hn' ⟨x7, σ7, H7, un I7, r7, q7⟩)
  exact loop m0 n 0 ys s₀ s2 σ H2 hn w0 ⟨acc, cc, r, I2⟩ st2 fun b hb => (f2 b hb).1
end
end Vf

set_option Elab.async false
set_option linter.all false
set_option maxRecDepth 100000
/-! The boxes of a region, one by one. -/
namespace Vf
open PySem PySem.Spec PyProof.Rows L2
open C8 (pss_cut tCut)
open Fm (Spans Form Slab Keep)
abbrev Bx := Int × Int × Int × Int
def slabBoxes (p : Slab) : List Bx := p.2.2.map fun s => (p.1, s.1, p.2.1, s.2)
def boxesOf (f : Form) : List Bx := f.flatMap slabBoxes
theorem scBoxesG : GScope ["self", "x1", "x2", "spans", "y1", "y2"] ["self"] (defScope sBoxesG) := ⟨rfl, rfl, rfl, by decide +kernel, rfl, by decide +kernel, by decide +kernel⟩
def spBoxesG (K : PySem.W.Frag) (C : Addr) : SpG := fun vs H Q _ => ∃ a f, vs = [.ref a] ∧ Rg K C a H f true ∧ (boxesOf f).length ≤ 100000 ∧ ∀ H' out, Same H H' → DpAll K H' out ((boxesOf f).map encB) → Q out H'
/-- turns of a loop in a generator -/
theorem wkG {J : It} {B : V → List V → L2.St → Hp → (List V → L2.St → Hp → Prop) → Prop} {Qd : List V → L2.St → Hp → Prop} {ys : List V} {σ : L2.St} {H : Hp} (n : Nat) (Pv : Nat → List V → L2.St → Hp → Prop) (h0 : Pv 0 ys σ H)
    (go : ∀ i ys σ H, i < n → Pv i ys σ H → J.go i H ∧ ∀ x H', J.yld i H x H' → B x ys σ H' (Pv (i + 1))) (hd : ∀ ys σ H, Pv n ys σ H → J.stop n H ∧ Qd ys σ H) :
    ∃ W : Nat → Nat → List V → L2.St → Hp → Prop, (∃ m, W 0 m ys σ H) ∧ ∀ i m ys σ H, W i m ys σ H → (J.stop i H ∧ Qd ys σ H) ∨ (J.go i H ∧ ∃ N : List V → L2.St → Hp → Prop, (∀ ys' σ' H', N ys' σ' H' → ∃ m', m' < m ∧ W (i + 1) m' ys' σ' H') ∧ ∀ x H', J.yld i H x H' → B x ys σ H' N) := by
  refine ⟨fun i m ys σ H => m = n - i ∧ i ≤ n ∧ Pv i ys σ H, ⟨n, rfl, Nat.zero_le _, h0⟩, ?_⟩
  rintro i m ys σ H ⟨rfl, hi, p⟩
  by_cases h : i < n
  · obtain ⟨g1, g2⟩ := go i ys σ H h p
    exact .inr ⟨g1, Pv (i + 1), fun ys' σ' H' q => ⟨n - (i + 1), by omega, rfl, h, q⟩, g2⟩
  · obtain rfl : i = n := by omega
    exact .inl (hd ys σ H p)
section
variable {P : Program} {w : World} {K : PySem.W.Frag} {mg : Str → Option Value} {base : Heap}
theorem ok_boxesG {f C : Addr} {fd : FuncData} {n : Nat} (F : Fun K "boxes" "Region.boxes" sBoxesG f fd) (T : RTxt K mg C) : GFn P w K mg base (n + 1) f fd ["self"] (spBoxesG K C) := by
  obtain ⟨oc, od, kV, doc, pm, an, cdv, ct, osl, rfl, lk, hcd⟩ := F.ex
  have nd := scBoxesG.nd
  refine gfn_of lk hcd scBoxesG (fun vs H Q E h => ?_) (fun A outer s H vs Q E pn hr h => ?_)
  · obtain ⟨a, f, rfl, _⟩ := h
    rfl
  · obtain ⟨a, f, rfl, ⟨dx, v, eA, d⟩, sz, q⟩ := h
    refine ⟨_, gss_cons (gs_ps (ps_if (pt_not (pt_val (pe_fld (pv 0) rfl))) (pss_one ps_no) pss_nil))
      (gss_cons (gs_for owns_gcx rfl (pi_tup (pe_fld (pv 0) rfl)) (pg_tup (by rfl) (pgs_cons (pg_name (i := 1) nd rfl (Or.inl rfl)) (pgs_cons (pg_name (i := 2) nd rfl (Or.inl rfl)) (pgs_cons (pg_name (i := 3) nd rfl (Or.inl rfl)) pgs_nil))))
        (gss_cons (gs_for owns_gcx rfl (pi_tup (pv 3)) (pg_tup (by rfl) (pgs_cons (pg_name (i := 4) nd rfl (Or.inl rfl)) (pgs_cons (pg_name (i := 5) nd rfl (Or.inl rfl)) pgs_nil)))
          (gss_cons (gs_yield (pe_tup (pa_cons (pv 1) (pa_cons (pv 4) (pa_cons (pv 2) (pa_cons (pv 5) pa_nil)))))) gss_nil)) gss_nil)) gss_nil), ?_⟩
    obtain ⟨A0, xs, rfl, hs, ha⟩ := dp_tup d
    have len : xs.length = f.length := (dpAll_len ha).trans (List.length_map ..)
    refine ⟨.ref a, rfl, a, C, dx, _, .bl true, rfl, eA, T.cl, T.nB, rf_b _ _, true, rfl, ?_⟩
    refine ⟨.ref a, rfl, a, C, dx, _, .ref A0, rfl, eA, T.cl, T.nS, rf_s _ _, A0, rfl, ⟨_, hs⟩, wkG xs.length (fun i ys σ H' => Same H H' ∧ ∃ o1 o2 o3 o4 o5 : Option V, σ = [some (.ref a), o1, o2, o3, o4, o5] ∧ DpAll K H' ys (((f.take i).flatMap slabBoxes).map encB)) ⟨fun _ _ e => e, none, none, none, none, none, rfl, .nil⟩ (fun i ys σ H2 hi r => ?_) (fun ys σ H2 r => ?_)⟩
    · obtain ⟨S2, o1, o2, o3, o4, o5, rfl, dy⟩ := r
      refine tt_go (sqT_same S2 hs) hi (fun z hz => ?_)
      obtain ⟨d, hd1, hd2⟩ := dpAll_get ha hz
      have hif : i < f.length := by omega
      have ed : d = encL f[i] := by
        rw [List.getElem?_map, List.getElem?_eq_getElem hif] at hd1
        exact (Option.some.inj hd1).symm
      subst ed
      obtain ⟨t, u, rfl, ht, hu⟩ := dp_slab hd2
      obtain ⟨p, us, rfl, hp, hus⟩ := dp_tup hu
      have et : f.take (i + 1) = f.take i ++ [f[i]] := by
        rw [List.take_add_one, List.getElem?_eq_getElem hif]
        rfl
      have full : boxesOf f = (f.take i).flatMap slabBoxes ++ slabBoxes f[i] ++ (f.drop (i + 1)).flatMap slabBoxes := by
        have e : f = f.take i ++ (f[i] :: f.drop (i + 1)) := by
          rw [← List.drop_eq_getElem_cons hif, List.take_append_drop]
        have e2 : boxesOf f = (f.take i ++ (f[i] :: f.drop (i + 1))).flatMap slabBoxes := congrArg boxesOf e
        rw [e2, List.flatMap_append, List.flatMap_cons, List.append_assoc]
      have ul : us.length = f[i].2.2.length := (dpAll_len hus).trans (List.length_map ..)
      have bl : ((f.take i).flatMap slabBoxes).length + f[i].2.2.length ≤ 100000 := by
        have := congrArg List.length full
        rw [List.length_append, List.length_append] at this
        have e3 : (slabBoxes f[i]).length = f[i].2.2.length := List.length_map ..
        omega
      refine ⟨t, _, rfl, sqT_same S2 ht, rfl, _, _, rfl, _, _, rfl, _, _, rfl, rfl, ?_⟩
      refine ⟨.ref p, rfl, p, rfl, ⟨_, sqT_same S2 hp⟩, wkG us.length (fun j ys σ H' => Same H H' ∧ ∃ o4 o5 : Option V, σ = [some (.ref a), some (.int f[i].1), some (.int f[i].2.1), some (.ref p), o4, o5] ∧ DpAll K H' ys (((f.take i).flatMap slabBoxes ++ (slabBoxes f[i]).take j).map encB)) ⟨S2, o4, o5, rfl, by rw [List.take_zero, List.append_nil]; exact dy⟩ (fun j ys σ H3 hj r => ?_) (fun ys σ H3 r => ?_)⟩
      · obtain ⟨S3, o4, o5, rfl, dy3⟩ := r
        refine tt_go (sqT_same S3 hp) hj (fun z hz => ?_)
        obtain ⟨d, hd1, hd2⟩ := dpAll_get hus hz
        have hjf : j < f[i].2.2.length := by omega
        have ed : d = encP f[i].2.2[j] := by
          rw [List.getElem?_map, List.getElem?_eq_getElem hjf] at hd1
          exact (Option.some.inj hd1).symm
        subst ed
        obtain ⟨r, rfl, hr⟩ := dp_pair (dp_same S3 hd2)
        have yl : ys.length = ((f.take i).flatMap slabBoxes).length + j := by
          rw [dpAll_len dy3, List.length_map, List.length_append, List.length_take]
          have e3 : (slabBoxes f[i]).length = f[i].2.2.length := List.length_map ..
          omega
        refine ⟨r, _, rfl, hr, rfl, _, _, rfl, _, _, rfl, rfl, ?_⟩
        refine ⟨Nat.lt_of_le_of_lt (show ys.length ≤ 100000 by omega) (by decide), _, rfl, _, rfl, _, rfl, _, rfl, (by show 4 ≤ sizeLine; decide), fun t4 ht4 => ?_⟩
        refine ⟨S3.trans (same_new ht4), _, _, rfl, ?_⟩
        have e4 : (slabBoxes f[i]).take (j + 1) = (slabBoxes f[i]).take j ++ [(f[i].1, f[i].2.2[j].1, f[i].2.1, f[i].2.2[j].2)] := by
          rw [List.take_add_one]
          unfold slabBoxes
          rw [List.getElem?_map, List.getElem?_eq_getElem hjf]
          rfl
        rw [e4, ← List.append_assoc, List.map_append]
        exact dpAll_app (dpAll_same (same_new ht4) dy3) (.cons (.tup sqT_new (.cons (.int _) (.cons (.int _) (.cons (.int _) (.cons (.int _) .nil))))) .nil)
      · obtain ⟨S3, o4, o5, rfl, dy3⟩ := r
        refine ⟨tt_end (sqT_same S3 hp), S3, _, _, _, _, _, rfl, ?_⟩
        have e3 : (slabBoxes f[i]).take us.length = slabBoxes f[i] := List.take_of_length_le (by rw [ul]; exact Nat.le_of_eq (List.length_map ..))
        rw [e3] at dy3
        rw [et, List.flatMap_append, List.flatMap_cons, List.flatMap_nil, List.append_nil]
        exact dy3
    · obtain ⟨S2, o1, o2, o3, o4, o5, rfl, dy⟩ := r
      rw [len, List.take_length] at dy
      exact ⟨tt_end (sqT_same S2 hs), q H2 ys S2 dy⟩
end
end Vf

set_option Elab.async false
set_option linter.all false
set_option maxRecDepth 100000
/-! New boxes. -/
namespace Vf
open PySem PySem.Spec PyProof.Rows L2
/-- new boxes, each a tuple of its own -/
def BxA (H : Hp) : List V → List Bx → Prop := Paired (fun v b => ∃ t, v = .ref t ∧ H t = some (.tup [.int b.1, .int b.2.1, .int b.2.2.1, .int b.2.2.2]))
theorem BxA.but {H H' : Hp} {p : Addr} {l : List V} (hp : H p = some (.lst l)) (B : But p H H') : ∀ {vs : List V} {bs : List Bx}, BxA H vs bs → BxA H' vs bs
  | _, _, .nil => .nil
  | _, _, .cons ⟨t, e, h⟩ r => .cons ⟨t, e, B t _ (ne_of h hp (by simp)) h⟩ (BxA.but hp B r)
theorem BxA.dp {K : PySem.W.Frag} {H : Hp} : ∀ {vs : List V} {bs : List Bx}, BxA H vs bs → DpAll K H vs (bs.map encB)
  | _, _, .nil => .nil
  | _, _, .cons ⟨t, e, h⟩ r => by
    subst e
    exact .cons (.tup (.inl (.inl h)) (.cons (.int _) (.cons (.int _) (.cons (.int _) (.cons (.int _) .nil))))) (BxA.dp r)
/-- a box along lines -/
def OnG (xs ys : List Int) (b : Bx) : Prop := b.1 ∈ xs ∧ b.2.2.1 ∈ xs ∧ b.2.1 ∈ ys ∧ b.2.2.2 ∈ ys ∧ okB b
theorem lt300 {x : Int} (h : x ≤ 1000) : x < 2 ^ 300 := Int.lt_of_le_of_lt h (by decide)
theorem up_lt {xs : List Int} (up : Fm.Up xs) {i j : Nat} (hi : i < j) (hj : j < xs.length) : xs[i] < xs[j] := List.pairwise_iff_getElem.mp up i j (by omega) hj hi
end Vf

set_option Elab.async false
set_option linter.all false
set_option maxRecDepth 100000
/-! The boxes of a law. -/
namespace Vf
open PySem PySem.Spec PyProof.Rows L2
open C8 (pss_cut tCut)
theorem scDrawn : FnScope ["_law_pool_here", "_law_xs", "_law_ys", "_law_most", "_law_found", "_law_turn", "_law_at", "_law_by", "_law_far", "_law_high"] ["_law_pool_here", "_law_xs", "_law_ys", "_law_most"] (defScope sDrawn) := ⟨rfl, rfl, rfl, by decide +kernel, rfl, by decide +kernel, by decide +kernel⟩
section
variable {P : Program} {w : World} {K : PySem.W.Frag} {mg : Str → Option Value} {base : Heap}
def spDrawn (K : PySem.W.Frag) : Sp := fun vs H Q _ => ∃ (p a b : Addr) (xs ys : List Int) (m : Nat), vs = [.ref p, .ref a, .ref b, .int m] ∧ Pool H p ∧ SqL K H a (xs.map V.int) ∧ SqL K H b (ys.map V.int) ∧ a ≠ p ∧ b ≠ p ∧ 2 ≤ xs.length ∧ xs.length ≤ 10 ∧ 2 ≤ ys.length ∧ ys.length ≤ 10 ∧ Fm.Up xs ∧ Fm.Up ys ∧ m ≤ 20 ∧
  ∀ H' l vs bs, But p H H' → Pool H' p → H l = none → H' l = some (.lst vs) → BxA H' vs bs → bs.length ≤ m → (∀ b ∈ bs, OnG xs ys b) → Q (.ref l) H'
theorem ok_drawn {f fT : Addr} {fd dT : FuncData} {n : Nat} (F : Fun K "_law_boxes" "_law_boxes" sDrawn f fd)
    (GT : FnOk P w K mg base CX0 n fT dT ["_law_pool_here", "_law_sides"] (spTake K)) (kT : PySem.W.keepIn K (.ref fT) = true) (bT : Binds K dT ["_law_pool_here", "_law_sides"] []) (gT : mg "_law_take" = some (.ref fT))
    (ml : mg "len" = none) (mr : mg "range" = none) : FnOk P w K mg base CX0 (n + 1) f fd ["_law_pool_here", "_law_xs", "_law_ys", "_law_most"] (spDrawn K) := by
  have nd := scDrawn.nd
  refine F.ok scDrawn (fun vs H Q E h => ?_) (fun cdv A outer st H vs Q E hr h => ?_)
  · obtain ⟨p, a, b, xs, ys, m, rfl, _⟩ := h
    rfl
  · obtain ⟨p, a, b, xs, ys, m, rfl, P0, ha, hb, ap, bp, x2, x9, y2, y9, upx, upy, m9, q⟩ := h
    refine ⟨_, (pss_cut (ps_set (i := 4) nd rfl (Or.inl rfl) (pe_lst pa_nil))
  (pss_cut (ps_for PassesOwn.never rfl (pi_range1 (by rfl) mr (pa_cons (pe_call GT hr (by rfl) gT kT bT .nil pass0 (pa_cons (pv 0) (pa_cons (pe_op op_add (pv 3) pe_int) pa_nil))) pa_nil)) (pg_name (i := 5) nd rfl (Or.inl rfl))
  (pss_cut (ps_par (i := 6) (j := 7) (by rfl) nd rfl rfl (by decide) rfl rfl (pa_cons (pe_call GT hr (by rfl) gT kT bT .nil pass0 (pa_cons (pv 0) (pa_cons (pe_op op_sub (pe_callB call_len_seq (by rfl) ml PySem.boot_len (pa_cons (pv 1) pa_nil)) pe_int) pa_nil))) (pa_cons (pe_call GT hr (by rfl) gT kT bT .nil pass0 (pa_cons (pv 0) (pa_cons (pe_op op_sub (pe_callB call_len_seq (by rfl) ml PySem.boot_len (pa_cons (pv 2) pa_nil)) pe_int) pa_nil))) pa_nil)) (by rfl))
  (pss_cut (ps_par (i := 8) (j := 9) (by rfl) nd rfl rfl (by decide) rfl rfl (pa_cons (pe_op op_add (pe_op op_add (pv 6) pe_int) (pe_call GT hr (by rfl) gT kT bT .nil pass0 (pa_cons (pv 0) (pa_cons (pe_op op_sub (pe_op op_sub (pe_callB call_len_seq (by rfl) ml PySem.boot_len (pa_cons (pv 1) pa_nil)) pe_int) (pv 6)) pa_nil)))) (pa_cons (pe_op op_add (pe_op op_add (pv 7) pe_int) (pe_call GT hr (by rfl) gT kT bT .nil pass0 (pa_cons (pv 0) (pa_cons (pe_op op_sub (pe_op op_sub (pe_callB call_len_seq (by rfl) ml PySem.boot_len (pa_cons (pv 2) pa_nil)) pe_int) (pv 7)) pa_nil)))) pa_nil)) (by rfl))
  (pss_one (ps_expr (pe_bm PySem.F.plainAttrs_list PySem.F.slot_list_append PySem.F.type_list_append mt_append (pv 4) (pa_cons (pe_tup (pa_cons (pe_ix ix_list (pv 1) (pv 6) (fun _ _ => rfl)) (pa_cons (pe_ix ix_list (pv 2) (pv 7) (fun _ _ => rfl)) (pa_cons (pe_ix ix_list (pv 1) (pv 8) (fun _ _ => rfl)) (pa_cons (pe_ix ix_list (pv 2) (pv 9) (fun _ _ => rfl)) pa_nil))))) pa_nil)))))))
  (pss_one (ps_ret (pv 4))))), ?_⟩
    refine ⟨fun σ' H' => ∃ l, But p H H' ∧ Pool H' p ∧ H l = none ∧ H' l = some (.lst []) ∧ σ' = [some (.ref p), some (.ref a), some (.ref b), some (.int m), some (.ref l), none, none, none, none, none], ?_, ?_⟩
    · exact ⟨Nat.zero_le _, fun l hl => ⟨l, But.of (same_new hl), pool_same P0 (same_new hl), hl, upd_same, rfl⟩⟩
    rintro _ H1 ⟨l, B1, P1, l0, hl1, rfl⟩
    have lp := pool_ne P0 l0
    refine ⟨fun σ' H' => ∃ (vs : List V) (bs : List Bx) (o5 o6 o7 o8 o9 : Option V), But p H H' ∧ Pool H' p ∧ H' l = some (.lst vs) ∧ BxA H' vs bs ∧ bs.length ≤ m ∧ (∀ b ∈ bs, OnG xs ys b) ∧ σ' = [some (.ref p), some (.ref a), some (.ref b), some (.int m), some (.ref l), o5, o6, o7, o8, o9], ?_, ?_⟩
    · refine ⟨.ref p, rfl, .int m, rfl, m, 1, rfl, rfl, p, _, rfl, P1, by omega, lt300 (by omega), fun v o h0 h1 P2 => ?_⟩
      have B2 := B1.trans (But.at (o := o))
      have hl2 : upd H1 p o l = some (.lst []) := by
        rw [upd_ne lp]
        exact hl1
      generalize upd H1 p o = H2 at P2 B2 hl2
      refine ⟨v, rfl, by omega, by omega, wkS v.toNat (fun i σ H' => ∃ (vs : List V) (bs : List Bx) (o5 o6 o7 o8 o9 : Option V), But p H H' ∧ Pool H' p ∧ H' l = some (.lst vs) ∧ BxA H' vs bs ∧ bs.length ≤ i ∧ (∀ b ∈ bs, OnG xs ys b) ∧ σ = [some (.ref p), some (.ref a), some (.ref b), some (.int m), some (.ref l), o5, o6, o7, o8, o9]) ⟨[], [], none, none, none, none, none, B2, P2, hl2, .nil, Nat.le_refl _, fun _ h => by simp at h, rfl⟩ (fun i σ H3 hi r => ?_) (fun σ H3 r => ?_)⟩
      · obtain ⟨vs, bs, o5, o6, o7, o8, o9, B3, P3, hl3, bx, bl, og, rfl⟩ := r
        refine tr_go hi ?_
        have qa := fun {H'} (B : But p H H') => sqL_wo_at B ap ha
        have qb := fun {H'} (B : But p H H') => sqL_wo_at B bp hb
        refine ⟨fun σ' H' => ∃ (i j : Nat) (o5 o8 o9 : Option V), i + 1 < xs.length ∧ j + 1 < ys.length ∧ But p H H' ∧ Pool H' p ∧ H' l = some (.lst vs) ∧ BxA H' vs bs ∧ σ' = [some (.ref p), some (.ref a), some (.ref b), some (.int m), some (.ref l), o5, some (.int i), some (.int j), o8, o9], ?_, ?_⟩
        · refine ⟨.ref p, rfl, .ref a, rfl, a, _, rfl, .inl (qa B3), _, 1, rfl, rfl, p, _, rfl, P3, by rw [List.length_map]; omega, lt300 (by rw [List.length_map]; omega), fun v o h0 h1 P4 => ?_⟩
          have B4 := B3.trans (But.at (o := o))
          have hl4 : upd H3 p o l = some (.lst vs) := by
            rw [upd_ne lp]
            exact hl3
          obtain ⟨z1, z2, ez, _⟩ := P3
          have bx4 := bx.but ez (But.at (o := o))
          generalize upd H3 p o = H4 at P4 B4 hl4 bx4
          rw [List.length_map] at h1
          refine ⟨.ref p, rfl, .ref b, rfl, b, _, rfl, .inl (qb B4), _, 1, rfl, rfl, p, _, rfl, P4, by rw [List.length_map]; omega, lt300 (by rw [List.length_map]; omega), fun u o' g0 g1 P5 => ?_⟩
          have B5 := B4.trans (But.at (o := o'))
          have hl5 : upd H4 p o' l = some (.lst vs) := by
            rw [upd_ne lp]
            exact hl4
          obtain ⟨z3, z4, ez2, _⟩ := P4
          have bx5 := bx4.but ez2 (But.at (o := o'))
          rw [List.length_map] at g1
          refine ⟨_, _, rfl, v.toNat, u.toNat, some (.int (0 + (i : Int))), o8, o9, by omega, by omega, B5, P5, hl5, bx5, ?_⟩
          rw [show ((v.toNat : Nat) : Int) = v by omega, show ((u.toNat : Nat) : Int) = u by omega]
          rfl
        rintro _ H4 ⟨x1, y1, o5', o8', o9', hx1, hy1, B4, P4, hl4, bx4, rfl⟩
        refine ⟨fun σ' H' => ∃ (i j : Nat) (o5 : Option V), x1 < i ∧ i < xs.length ∧ y1 < j ∧ j < ys.length ∧ But p H H' ∧ Pool H' p ∧ H' l = some (.lst vs) ∧ BxA H' vs bs ∧ σ' = [some (.ref p), some (.ref a), some (.ref b), some (.int m), some (.ref l), o5, some (.int x1), some (.int y1), some (.int i), some (.int j)], ?_, ?_⟩
        · refine ⟨.int x1, rfl, _, 1, rfl, rfl, .ref p, rfl, .ref a, rfl, a, _, rfl, .inl (qa B4), _, 1, rfl, rfl, .int x1, rfl, _, _, rfl, rfl, p, _, rfl, P4, by rw [List.length_map]; omega, lt300 (by rw [List.length_map]; omega), fun v o h0 h1 P5 => ?_⟩
          have B5 := B4.trans (But.at (o := o))
          have hl5 : upd H4 p o l = some (.lst vs) := by
            rw [upd_ne lp]
            exact hl4
          obtain ⟨z1, z2, ez, _⟩ := P4
          have bx5 := bx4.but ez (But.at (o := o))
          generalize upd H4 p o = H5 at P5 B5 hl5 bx5
          rw [List.length_map] at h1
          refine ⟨_, _, rfl, rfl, .int y1, rfl, _, 1, rfl, rfl, .ref p, rfl, .ref b, rfl, b, _, rfl, .inl (qb B5), _, 1, rfl, rfl, .int y1, rfl, _, _, rfl, rfl, p, _, rfl, P5, by rw [List.length_map]; omega, lt300 (by rw [List.length_map]; omega), fun u o' g0 g1 P6 => ?_⟩
          have B6 := B5.trans (But.at (o := o'))
          have hl6 : upd H5 p o' l = some (.lst vs) := by
            rw [upd_ne lp]
            exact hl5
          obtain ⟨z3, z4, ez2, _⟩ := P5
          have bx6 := bx5.but ez2 (But.at (o := o'))
          rw [List.length_map] at g1
          refine ⟨_, _, rfl, rfl, _, _, rfl, x1 + 1 + v.toNat, y1 + 1 + u.toNat, o5', by omega, by omega, by omega, by omega, B6, P6, hl6, bx6, ?_⟩
          rw [show ((x1 + 1 + v.toNat : Nat) : Int) = (x1 : Int) + 1 + v by omega, show ((y1 + 1 + u.toNat : Nat) : Int) = (y1 : Int) + 1 + u by omega]
          rfl
        rintro _ H5 ⟨x3, y3, o5'', lx, hx3, ly, hy3, B5, P5, hl5, bx5, rfl⟩
        have ix : ∀ {zs : List Int} {k : Nat} (h : k < zs.length), atI (zs.map V.int) (k : Int) = some (.int zs[k]) := fun {zs k} h => atI_nat (by rw [List.getElem?_map, List.getElem?_eq_getElem h]; rfl)
        have vl : vs.length = bs.length := Paired.length bx5
        refine ⟨.ref l, rfl, .inl ⟨rfl, _, .inl (.inl hl5)⟩, ?_⟩
        refine ⟨.ref a, rfl, .int x1, rfl, a, _, _, _, rfl, rfl, qa B5, ix (by omega), .ref b, rfl, .int y1, rfl, b, _, _, _, rfl, rfl, qb B5, ix (by omega), .ref a, rfl, .int x3, rfl, a, _, _, _, rfl, rfl, qa B5, ix hx3, .ref b, rfl, .int y3, rfl, b, _, _, _, rfl, rfl, qb B5, ix hy3, (by show 4 ≤ sizeLine; decide), fun t ht => ?_⟩
        have S6 := same_new (o := .tup [.int (xs[x1]'(by omega)), .int (ys[y1]'(by omega)), .int xs[x3], .int ys[y3]]) ht
        have hl6 := S6 _ _ hl5
        refine ⟨l, vs, .ref t, rfl, rfl, hl6, Nat.lt_of_le_of_lt (show vs.length ≤ 30 by omega) (by decide), ?_⟩
        have bx6 := bx5.but hl5 (But.of S6)
        refine ⟨vs ++ [.ref t], bs ++ [(xs[x1]'(by omega), ys[y1]'(by omega), xs[x3], ys[y3])], _, _, _, _, _, ?_, pool_same' lp (pool_same P5 S6), upd_same, ?_, by rw [List.length_append]; exact Nat.succ_le_succ bl, fun b hb' => ?_, rfl⟩
        · intro c u nc e
          rw [upd_ne (ne_of_none e l0)]
          exact S6 _ _ (B5 c u nc e)
        · refine Paired.snoc (bx6.but hl6 But.at) ⟨t, rfl, ?_⟩
          rw [upd_ne (ne_of (upd_same (H := H5) (a := t)) hl6 (by simp)), upd_same]
        · rcases List.mem_append.mp hb' with hb' | hb'
          · exact og b hb'
          · rw [List.mem_singleton.mp hb']
            exact ⟨List.getElem_mem _, List.getElem_mem _, List.getElem_mem _, List.getElem_mem _, up_lt upx lx hx3, up_lt upy ly hy3⟩
      · obtain ⟨vs, bs, o5, o6, o7, o8, o9, B3, P3, hl3, bx, bl, og, rfl⟩ := r
        exact ⟨tr_end, vs, bs, o5, o6, o7, o8, o9, B3, P3, hl3, bx, by omega, og, rfl⟩
    rintro _ H3 ⟨vs, bs, o5, o6, o7, o8, o9, B3, P3, hl3, bx, bl, og, rfl⟩
    exact ⟨.ref l, rfl, q H3 l vs bs B3 P3 l0 hl3 bx bl og⟩
end
end Vf

set_option Elab.async false
set_option linter.all false
set_option maxRecDepth 100000
/-! Squares of boxes. -/
namespace Vf
open PySem PySem.Spec PyProof.Rows L2
/-- a square of a box -/
def inBx (x y : Int) (b : Bx) : Bool := decide (b.1 ≤ x) && decide (x < b.2.2.1) && (decide (b.2.1 ≤ y) && decide (y < b.2.2.2))
def hasL (bs : List Bx) (x y : Int) : Bool := bs.any (inBx x y)
theorem canLay_boxes (bs : List Bx) : PyData.canLayAll0 (bs.map encB) = true := by
  induction bs with
  | nil => rfl
  | cons p s ih => simp only [List.map_cons, PyData.canLayAll0, encB, PyData.canLay0, Bool.true_and, Bool.and_self, ih]
theorem shaped_boxes (bs : List Bx) : SeqAt.shaped (.list (bs.map encB)) = true := by
  unfold SeqAt.shaped
  have h1 : PyData.canLay0 (.list (bs.map encB)) = true := by
    simp only [PyData.canLay0]
    exact canLay_boxes bs
  have h2 : PyData.depth (.list (bs.map encB)) ≤ 2 := by
    simp only [PyData.depth]
    have : PyData.depthAll (bs.map encB) ≤ 1 := depthAll_mem.mpr fun d hd => by
      obtain ⟨p, _, rfl⟩ := List.mem_map.mp hd
      simp [encB, PyData.depth, PyData.depthAll]
    omega
  rw [h1, decide_eq_true (by omega)]
  rfl
theorem eqv_nil (ds : List PyData) : PyData.eqv (.list ds) (.list []) = ds.isEmpty := by
  simp only [PyData.eqv]
  cases ds <;> rfl
theorem has_filter : ∀ (bs : List Bx) (x y : Int), (!((bs.filter (inBx x y)).map encB).isEmpty) = hasL bs x y
  | [], _, _ => rfl
  | b :: bs, x, y => by
    have ih := has_filter bs x y
    unfold hasL at *
    rw [List.filter_cons, List.any_cons]
    cases inBx x y b with
    | true => rfl
    | false => exact ih
/-- t[i] <= v < t[j] -/
theorem rd_in {K : PySem.W.Frag} {H : Hp} {Q : Bool → Hp → Prop} {σ : L2.St} {t : Addr} {xs : List V} {a c v i j : Int} {k m : Nat} (h4 : σ[k]? = some (some (.ref t))) (ht : SqT K H t xs) (hlo : atI xs i = some (.int a)) (hhi : atI xs j = some (.int c)) (hv : σ[m]? = some (some (.int v)))
    (q : Q (decide (a ≤ v) && decide (v < c)) H) : tTest (tChain (rI0 fun i j => V.bl (decide (i ≤ j))) (rI0 fun i j => V.bl (decide (i < j))) (tOp (rIxT K) (tVar k) (tC (.int i))) (tVar m) (tOp (rIxT K) (tVar k) (tC (.int j)))) σ H Q := by
  refine ⟨.ref t, h4, t, xs, i, .int a, rfl, rfl, ht, hlo, .int v, hv, a, v, rfl, rfl, _, rfl, ite2 (fun e => ?_) (fun e => ?_)⟩
  · rw [e, Bool.true_and] at q
    exact ⟨.ref t, h4, t, xs, j, .int c, rfl, rfl, ht, hhi, v, c, rfl, rfl, _, rfl, q⟩
  · rw [eq_false_of_ne_true' e, Bool.false_and] at q
    exact ⟨_, rfl, q⟩
end Vf

set_option Elab.async false
set_option linter.all false
set_option maxRecDepth 100000
/-! Squares of boxes, by a law. -/
namespace Vf
open PySem PySem.Spec PyProof.Rows L2
open C8 (pss_cut tCut)
theorem scHasL : FnScope ["_law_boxes_here", "_law_square", "_law_x", "_law_y", "_law_box"] ["_law_boxes_here", "_law_square"] (defScope sHasL) := ⟨rfl, rfl, rfl, by decide +kernel, rfl, by decide +kernel, by decide +kernel⟩
section
variable {P : Program} {w : World} {K : PySem.W.Frag} {mg : Str → Option Value} {base : Heap}
def spHasL (K : PySem.W.Frag) : Sp := fun vs H Q _ => ∃ (l : Addr) (s : V) (us : List V) (bs : List Bx) (x y : Int), vs = [.ref l, s] ∧ SqL K H l us ∧ DpAll K H us (bs.map encB) ∧ Dp K H s (.tuple [.int x, .int y]) ∧ bs.length ≤ 1000 ∧ ∀ H', Same H H' → Q (.bl (hasL bs x y)) H'
theorem ok_hasL {f : Addr} {fd : FuncData} {n : Nat} (F : Fun K "_law_has" "_law_has" sHasL f fd) : FnOk P w K mg base CX0 (n + 1) f fd ["_law_boxes_here", "_law_square"] (spHasL K) := by
  have nd := scHasL.nd
  refine F.ok scHasL (fun vs H Q E h => ?_) (fun cdv A outer st H vs Q E hr h => ?_)
  · obtain ⟨l, s, us, bs, x, y, rfl, _⟩ := h
    rfl
  · obtain ⟨l, s, us, bs, x, y, rfl, hl, hb, hs, sz, q⟩ := h
    obtain ⟨sa, rfl, hsq⟩ := dp_pair hs
    refine ⟨_, (pss_cut (ps_asg (pv 1) (pg_tup (by rfl) (pgs_cons (pg_name (i := 2) nd rfl (Or.inr rfl)) (pgs_cons (pg_name (i := 3) nd rfl (Or.inr rfl)) pgs_nil))))
  (pss_one (ps_ret (pe_cmpR (op_neD hr.units) (pe_lc (own := [("_law_box", 4)]) (g := (gName 4)) rfl nd (pi_list (pv 0)) (blkOk_by (N := ["_law_boxes_here", "_law_square", "_law_x", "_law_y", "_law_box"]) (sc := defScope sHasL) (by decide +kernel)) (fun _ _ _ _ _ => (pg_name (i := 4) nd rfl (Or.inl rfl))) (fun _ _ _ _ _ => (pts_one (PW.pt (pw_and (pt_chain op_le op_lt (pe_ix (r := rIxT K) ix_tup (pv 4) pe_int (fun _ _ => rfl)) (pv 2) (pe_ix (r := rIxT K) ix_tup (pv 4) pe_int (fun _ _ => rfl))) (pw_and1 (pt_chain op_le op_lt (pe_ix (r := rIxT K) ix_tup (pv 4) pe_int (fun _ _ => rfl)) (pv 3) (pe_ix (r := rIxT K) ix_tup (pv 4) pe_int (fun _ _ => rfl)))))))) (fun _ _ _ _ _ => (pv 4))) (pe_lst pa_nil) (nomark _))))), ?_⟩
    refine ⟨fun σ' H' => H' = H ∧ σ' = [some (.ref l), some (.ref sa), some (.int x), some (.int y), none], ⟨.ref sa, rfl, sa, _, rfl, hsq, rfl, _, _, rfl, _, _, rfl, rfl, rfl, rfl⟩, ?_⟩
    rintro σ1 H1 ⟨rfl, rfl⟩
    refine ⟨.ref l, rfl, l, rfl, ⟨_, hl⟩, fun D hD => ?_⟩
    refine wk us.length (fun i H' => Same H1 H' ∧ ∃ zs, H' D = some (.lst zs) ∧ DpAll K H1 zs (((bs.take i).filter (inBx x y)).map encB)) ⟨same_new hD, [], upd_same, .nil⟩ (fun i H2 hi r => ?_) (fun H2 r => ?_)
    · obtain ⟨S2, zs, hL, dz⟩ := r
      refine tl_go (S2.seq hl) hi (fun z hz => ?_)
      obtain ⟨d, hd1, hd2⟩ := dpAll_get hb hz
      rw [List.getElem?_map] at hd1
      obtain ⟨b, hbi, rfl⟩ := Option.map_eq_some_iff.mp hd1
      obtain ⟨t, rfl, ht⟩ := dp_box hd2
      have ht2 := sqT_same S2 ht
      have et : (bs.take (i + 1)).filter (inBx x y) = (bs.take i).filter (inBx x y) ++ [b].filter (inBx x y) := by
        rw [List.take_add_one, hbi, List.filter_append]
        rfl
      have zl : zs.length ≤ 1000 := by
        rw [dpAll_len dz, List.length_map]
        have := List.length_filter_le (inBx x y) (bs.take i)
        rw [List.length_take] at this
        omega
      have no : inBx x y b = false → Same H1 H2 ∧ ∃ zs, H2 D = some (.lst zs) ∧ DpAll K H1 zs (((bs.take (i + 1)).filter (inBx x y)).map encB) := fun e => by
        refine ⟨S2, zs, hL, ?_⟩
        rw [et, List.filter_cons, e]
        simpa using dz
      refine ⟨rfl, ?_⟩
      have fits : zs.length < sizeLine := Nat.lt_of_le_of_lt zl (by decide)
      refine rd_in (xs := [.int b.1, .int b.2.1, .int b.2.2.1, .int b.2.2.2]) rfl ht2 (atI_nat (j := 0) rfl) (atI_nat (j := 2) rfl) rfl ?_
      refine ite2 (fun e => ?_) (fun e => ?_)
      · refine rd_in (xs := [.int b.1, .int b.2.1, .int b.2.2.1, .int b.2.2.2]) rfl ht2 (atI_nat (j := 1) rfl) (atI_nat (j := 3) rfl) rfl ?_
        refine ite2 (fun e2 => ?_) (fun e2 => ?_)
        · refine ⟨.ref t, rfl, zs, hL, fits, same_grow S2 hD, zs ++ [.ref t], upd_same, ?_⟩
          have e3 : inBx x y b = true := by
            unfold inBx
            rw [e, e2]
            rfl
          rw [et, List.filter_cons, e3, List.map_append]
          exact dpAll_app dz (.cons hd2 .nil)
        · refine no ?_
          unfold inBx
          rw [eq_false_of_ne_true' e2, Bool.and_false]
      · refine no ?_
        unfold inBx
        rw [eq_false_of_ne_true' e, Bool.false_and]
    · obtain ⟨S2, zs, hL, dz⟩ := r
      have ul : us.length = bs.length := (dpAll_len hb).trans (List.length_map ..)
      rw [ul, List.take_length] at dz
      refine ⟨tl_end (S2.seq hl), Nat.zero_le _, fun e he => ?_⟩
      have S3 := same_new (o := .lst []) he
      refine ⟨.list ((bs.filter (inBx x y)).map encB), .list [], .lst (.inl (.inl (S3 _ _ hL))) (dpAll_same (S2.trans S3) dz), .lst (.inl (.inl upd_same)) .nil, shaped_boxes _, shaped_boxes [], ?_⟩
      have := q _ (S2.trans S3)
      have ev : (!PyData.eqv (.list ((bs.filter (inBx x y)).map encB)) (.list [])) = hasL bs x y := by
        rw [eqv_nil]
        exact has_filter bs x y
      rw [ev]
      exact this
end
end Vf

set_option Elab.async false
set_option linter.all false
set_option maxRecDepth 100000
/-! Regions of boxes. -/
namespace Vf
open PySem PySem.Spec PyProof.Rows L2
open C8 (pss_cut tCut)
open Fm (Spans Form Slab Keep)
/-- the region of these boxes -/
def IsOf (bs : List Bx) (f : Form) : Prop := Sz bs.length f ∧ ∀ x y, sqF f x y = hasL bs x y
theorem boxF_in (b : Bx) (x y : Int) : sqF (boxF b) x y = inBx x y b := boxF_sq b x y
theorem isOf_nil : IsOf [] [] := ⟨sz_nil 0, fun _ _ => rfl⟩
theorem isOf_formB {bs : List Bx} (h : ∀ b ∈ bs, okB b) : IsOf bs (formB bs) := by
  refine ⟨formB_sz h, fun x y => ?_⟩
  rw [formB_sq h]
  unfold hasL
  congr 1
  funext b
  exact boxF_in b x y
theorem isOf_or {as bs : List Bx} {f g : Form} (a : IsOf as f) (b : IsOf bs g) : IsOf (as ++ bs) (combF (kTurn kOr true true) f g) := by
  refine ⟨?_, fun x y => ?_⟩
  · rw [List.length_append]
    exact a.1.comb b.1 (kTurn0 _ _ _)
  · have h := inR_comb (k := kOr) (b1 := true) (b2 := true) a.1 b.1 x y
    have e : ∀ z : Bool, (z == true) = z := fun z => by cases z <;> rfl
    unfold inR at h
    rw [show (!kOr (!true) (!true)) = true from rfl, e, e, e] at h
    rw [h, a.2, b.2]
    unfold hasL
    rw [List.any_append]
theorem isOf_eq {as : List Bx} {f g : Form} (a : IsOf as f) (b : IsOf as g) : f = g := form_sq a.1.ok b.1.ok fun x y => (a.2 x y).trans (b.2 x y).symm
/-- what calls of the class need -/
structure RCls (P : Program) (w : World) (K : PySem.W.Frag) (mg : Str → Option Value) (base : Heap) (C : Addr) (n : Nat) : Prop where
  txt : RTxt K mg C
  sf : PySem.W.selfFirst K C = true
  rd : ∃ mc, ClX.CRead K C mc ∧ (∃ p g, CSta K C mc "empty" p g ∧ FnR P w K mg base CX0 n g (spConst K C true)) ∧ (∃ p g, CSta K C mc "everything" p g ∧ FnR P w K mg base CX0 n g (spConst K C false)) ∧ ∃ p g, ClX.CMet K C mc "of" p g ∧ FnR P w K mg base CX0 n g (spOf K C)
  or_ : ∃ g, Own K C "__or__" g ∧ FnR P w K mg base CX0 n g (spOp K C kOr)
end Vf


set_option Elab.async false
set_option linter.all false
set_option maxRecDepth 100000
/-! Expressions over regions: their reading, and when two are equal. -/
namespace Vf
open PySem PySem.Spec PyProof.Rows L2
open Fm (Spans Form Slab Keep)
inductive RX where
  | var (i : Nat)
  | bin (k : Keep) (a b : RX)
  | inv (a : RX)
  | con (b : Bool)
namespace RX
def n (ν : Nat → Nat) : RX → Nat
  | var i => ν i
  | bin _ a b => a.n ν + b.n ν
  | inv a => a.n ν
  | con _ => 0
def Ok (P : Nat → Prop) : RX → Prop
  | var i => P i
  | bin _ a b => a.Ok P ∧ b.Ok P
  | inv a => a.Ok P
  | con _ => True
theorem Ok.imp {P Q : Nat → Prop} (h : ∀ i, P i → Q i) : ∀ {e : RX}, e.Ok P → e.Ok Q
  | var i, o => h i o
  | bin _ _ _, o => ⟨Ok.imp h o.1, Ok.imp h o.2⟩
  | inv a, o => Ok.imp (e := a) h o
  | con _, _ => trivial
def ev (ρ : Nat → Form × Bool) : RX → Form × Bool
  | var i => ρ i
  | bin k a b => (combF (kTurn k (a.ev ρ).2 (b.ev ρ).2) (a.ev ρ).1 (b.ev ρ).1, !k (!(a.ev ρ).2) (!(b.ev ρ).2))
  | inv a => ((a.ev ρ).1, !(a.ev ρ).2)
  | con b => ([], b)
def evB (v : Nat → Bool) : RX → Bool
  | var i => v i
  | bin k a b => k (a.evB v) (b.evB v)
  | inv a => !(a.evB v)
  | con b => !b
variable {ρ : Nat → Form × Bool} {ν : Nat → Nat}
theorem sz : ∀ {e : RX}, e.Ok (fun i => Sz (ν i) (ρ i).1) → Sz (e.n ν) (e.ev ρ).1
  | var _, o => o
  | bin k a b, o => (sz o.1).comb (sz o.2) (kTurn0 _ _ _)
  | inv a, o => sz (e := a) o
  | con _, _ => sz_nil 0
theorem in_ (x y : Int) : ∀ {e : RX}, e.Ok (fun i => Sz (ν i) (ρ i).1) → inR (e.ev ρ).1 (e.ev ρ).2 x y = e.evB fun i => inR (ρ i).1 (ρ i).2 x y
  | var _, _ => rfl
  | bin k a b, o => by
    show inR (combF (kTurn k (a.ev ρ).2 (b.ev ρ).2) (a.ev ρ).1 (b.ev ρ).1) (!k (!(a.ev ρ).2) (!(b.ev ρ).2)) x y = _
    rw [inR_comb (sz o.1) (sz o.2), in_ x y o.1, in_ x y o.2]
    rfl
  | inv a, o => by
    have h := in_ x y (e := a) o
    show inR (a.ev ρ).1 (!(a.ev ρ).2) x y = !(a.evB _)
    rw [← h]
    unfold inR
    cases sqF (a.ev ρ).1 x y <;> cases (a.ev ρ).2 <;> rfl
  | con b, _ => by cases b <;> rfl
theorem out : ∀ {e : RX}, (e.ev ρ).2 = !(e.evB fun i => !(ρ i).2)
  | var i => (Bool.not_not _).symm
  | bin k a b => by
    show (!k (!(a.ev ρ).2) (!(b.ev ρ).2)) = !(k _ _)
    rw [out (e := a), out (e := b), Bool.not_not, Bool.not_not]
  | inv a => by
    show (!(a.ev ρ).2) = !(!(a.evB _))
    rw [out (e := a)]
  | con b => (Bool.not_not _).symm
theorem taut {a b : RX} (oa : a.Ok (fun i => Sz (ν i) (ρ i).1)) (ob : b.Ok (fun i => Sz (ν i) (ρ i).1)) (h : ∀ v, a.evB v = b.evB v) : sameR (a.ev ρ).1 (a.ev ρ).2 (b.ev ρ).1 (b.ev ρ).2 = true := by
  have e2 : (a.ev ρ).2 = (b.ev ρ).2 := by rw [out (e := a), out (e := b), h]
  have e1 : (a.ev ρ).1 = (b.ev ρ).1 := form_sq (sz oa).ok (sz ob).ok fun x y => by
    have := (in_ x y oa).trans ((h _).trans (in_ x y ob).symm)
    unfold inR at this
    rw [← e2] at this
    revert this
    cases sqF (a.ev ρ).1 x y <;> cases sqF (b.ev ρ).1 x y <;> cases (a.ev ρ).2 <;> decide
  unfold sameR
  rw [e1, e2, decide_eq_true rfl]
  simp
section
variable {K : PySem.W.Frag} {C : Addr} {E : XK}
/-- the reading of an expression -/
def tE (K : PySem.W.Frag) (C : Addr) (E : XK) : RX → TE
  | var i => tVar i
  | bin k a b => tOp (rBinO C (spOp K C k) E) (tE K C E a) (tE K C E b)
  | inv a => tUn (rInvO C (spInv K C) E) (tE K C E a)
  | con b => tSta C (spConst K C b) E (tC (.ref C)) tNil
theorem Ok.go {σ : L2.St} {H H1 : Hp} {e : RX} (S : Same H H1) (o : e.Ok (fun i => (∃ a, σ[i]? = some (some (.ref a)) ∧ Rg K C a H (ρ i).1 (ρ i).2) ∧ Sz (ν i) (ρ i).1)) : e.Ok (fun i => (∃ a, σ[i]? = some (some (.ref a)) ∧ Rg K C a H1 (ρ i).1 (ρ i).2) ∧ Sz (ν i) (ρ i).1) :=
  Ok.imp (fun _ h => ⟨let ⟨c, e, r⟩ := h.1; ⟨c, e, r.same S⟩, h.2⟩) o
theorem rd {σ : L2.St} : ∀ (e : RX) {H : Hp} {Q : VK}, e.Ok (fun i => (∃ a, σ[i]? = some (some (.ref a)) ∧ Rg K C a H (ρ i).1 (ρ i).2) ∧ Sz (ν i) (ρ i).1) → e.n ν ≤ 400 →
    (∀ H' x, Same H H' → Rg K C x H' (e.ev ρ).1 (e.ev ρ).2 → Q (.ref x) H') → tE K C E e σ H Q
  | var i, H, Q, o, _, q => by
    obtain ⟨⟨a, e, r⟩, _⟩ := o
    exact ⟨.ref a, e, q H a (fun _ _ e => e) r⟩
  | bin k a b, H, Q, o, z, q => by
    have za : a.n ν + b.n ν ≤ 400 := z
    refine rd a o.1 (by omega) fun H1 x S1 rx => rd b (Ok.go S1 o.2) (by omega) fun H2 y S2 ry => ?_
    refine ⟨x, y, rfl, rfl, (rx.same S2).ins, ry.ins, x, y, rfl, _, _, _, _, a.n ν, b.n ν, rx.same S2, ry, sz (Ok.imp (fun _ h => h.2) o.1), sz (Ok.imp (fun _ h => h.2) o.2), by omega, by omega, fun H' v S r => q H' v ((S1.trans S2).trans S) r⟩
  | inv a, H, Q, o, z, q => rd a o z fun H1 x S1 rx => ⟨x, rfl, rx.ins, x, _, _, rfl, rx, fun H' y S r => q H' y (S1.trans S) r⟩
  | con b, H, Q, _, _, q => ⟨rfl, rfl, fun H' x S r => q H' x S r⟩
/-- two expressions that are equal whatever the regions are, compared -/
theorem rd_cmp {σ : L2.St} {H : Hp} {Q : VK} (neg : Bool) (a b : RX) (oa : a.Ok (fun i => (∃ c, σ[i]? = some (some (.ref c)) ∧ Rg K C c H (ρ i).1 (ρ i).2) ∧ Sz (ν i) (ρ i).1)) (ob : b.Ok (fun i => (∃ c, σ[i]? = some (some (.ref c)) ∧ Rg K C c H (ρ i).1 (ρ i).2) ∧ Sz (ν i) (ρ i).1))
    (za : a.n ν ≤ 400) (zb : b.n ν ≤ 400) (h : ∀ v, a.evB v = b.evB v) (q : ∀ H', Same H H' → Q (.bl (!neg)) H') : tOp (rEqO C neg (spEqR K C) E) (tE K C E a) (tE K C E b) σ H Q := by
  refine rd a oa za fun H1 x S1 rx => rd b (Ok.go S1 ob) zb fun H2 y S2 ry => ?_
  · refine ⟨x, y, rfl, rfl, (rx.same S2).ins, ry.ins, x, y, _, _, _, _, rfl, rx.same S2, ry, _, rfl, ?_⟩
    rw [taut (Ok.imp (fun _ h => h.2) oa) (Ok.imp (fun _ h => h.2) ob) h, Bool.true_bne]
    exact q H2 (S1.trans S2)
end
end RX
end Vf

set_option Elab.async false
set_option linter.all false
set_option maxRecDepth 100000
/-! What calls of the class need. -/
namespace Vf
open PySem PySem.Spec PyProof.Rows L2
open Fm (Spans Form Slab Keep)
/-- what calls of the class need: empty, of, | -/
structure RCe (P : Program) (w : World) (K : PySem.W.Frag) (mg : Str → Option Value) (base : Heap) (C : Addr) (n : Nat) : Prop where
  txt : RTxt K mg C
  sf : PySem.W.selfFirst K C = true
  rd : ∃ mc, ClX.CRead K C mc ∧ (∃ p g, CSta K C mc "empty" p g ∧ FnR P w K mg base CX0 n g (spConst K C true)) ∧ ∃ p g, ClX.CMet K C mc "of" p g ∧ FnR P w K mg base CX0 n g (spOf K C)
  or_ : ∃ g, Own K C "__or__" g ∧ FnR P w K mg base CX0 n g (spOp K C kOr)
/-- ~ of the class -/
def RInv (P : Program) (w : World) (K : PySem.W.Frag) (mg : Str → Option Value) (base : Heap) (C : Addr) (n : Nat) : Prop := ∃ g, Own K C "__invert__" g ∧ FnR P w K mg base CX0 n g (spInv K C)
end Vf

set_option Elab.async false
set_option linter.all false
set_option maxRecDepth 100000
/-! The laws of the operators, by a law. -/
namespace Vf
open PySem PySem.Spec PyProof.Rows L2
open C8 (pss_cut tCut)
open Fm (Spans Form Slab Keep)
namespace RX
def lt (m : Nat) : RX → Bool
  | var i => decide (i < m)
  | bin _ a b => a.lt m && b.lt m
  | inv a => a.lt m
  | con _ => true
theorem ok_lt {m : Nat} {P : Nat → Prop} (h : ∀ i, i < m → P i) : ∀ {e : RX}, e.lt m = true → e.Ok P
  | var i, l => h i (of_decide_eq_true l)
  | bin _ a b, l => by
    simp only [lt, Bool.and_eq_true] at l
    exact ⟨ok_lt h l.1, ok_lt h l.2⟩
  | inv a, l => ok_lt (e := a) h l
  | con _, _ => trivial
/-- regions in the first m names, of at most ten boxes -/
def Rs (K : PySem.W.Frag) (C : Addr) (m : Nat) (σ : L2.St) (ρ : Nat → Form × Bool) (H : Hp) : Prop := ∀ i, i < m → (∃ a, σ[i]? = some (some (.ref a)) ∧ Rg K C a H (ρ i).1 (ρ i).2) ∧ Sz 10 (ρ i).1
theorem Rs.go {K : PySem.W.Frag} {C : Addr} {m : Nat} {σ : L2.St} {ρ : Nat → Form × Bool} {H H' : Hp} (S : Same H H') (h : Rs K C m σ ρ H) : Rs K C m σ ρ H' := fun i hi => let ⟨⟨a, e, r⟩, s⟩ := h i hi; ⟨⟨a, e, r.same S⟩, s⟩
theorem cmpR {K : PySem.W.Frag} {C : Addr} {E : XK} {m : Nat} {σ : L2.St} {ρ : Nat → Form × Bool} {H : Hp} {Q : VK} (neg : Bool) (a b : RX) (h : Rs K C m σ ρ H) (la : a.lt m = true) (lb : b.lt m = true) (za : a.n (fun _ => 10) ≤ 400) (zb : b.n (fun _ => 10) ≤ 400)
    (tt : ∀ v, a.evB v = b.evB v) (q : ∀ H', Same H H' → Q (.bl (!neg)) H') : tOp (rEqO C neg (spEqR K C) E) (tE K C E a) (tE K C E b) σ H Q :=
  rd_cmp (ν := fun _ => 10) neg a b (ok_lt h la) (ok_lt h lb) za zb tt q
end RX
/-- the operators of the class -/
structure ROps (P : Program) (w : World) (K : PySem.W.Frag) (mg : Str → Option Value) (base : Heap) (C : Addr) (n : Nat) : Prop where
  txt : RTxt K mg C
  sf : PySem.W.selfFirst K C = true
  or_ : ∃ g, Own K C "__or__" g ∧ FnR P w K mg base CX0 n g (spOp K C kOr)
  and_ : ∃ g, Own K C "__and__" g ∧ FnR P w K mg base CX0 n g (spOp K C kAnd)
  sub_ : ∃ g, Own K C "__sub__" g ∧ FnR P w K mg base CX0 n g (spOp K C kSub)
  xor_ : ∃ g, Own K C "__xor__" g ∧ FnR P w K mg base CX0 n g (spOp K C kXor)
  inv_ : ∃ g, Own K C "__invert__" g ∧ FnR P w K mg base CX0 n g (spInv K C)
  eq_ : ∃ g, Own K C "__eq__" g ∧ FnR P w K mg base CX0 n g (spEqR K C)
  ne_ : NoNe K C
/-- the two constants of the class -/
def RCon (P : Program) (w : World) (K : PySem.W.Frag) (mg : Str → Option Value) (base : Heap) (C : Addr) (n : Nat) : Prop := ∃ mc, ClX.CRead K C mc ∧ (∃ p g, CSta K C mc "empty" p g ∧ FnR P w K mg base CX0 n g (spConst K C true)) ∧ ∃ p g, CSta K C mc "everything" p g ∧ FnR P w K mg base CX0 n g (spConst K C false)
theorem scAlike : FnScope ["_law_a", "_law_b", "_law_c"] ["_law_a", "_law_b", "_law_c"] (defScope sL_alike) := ⟨rfl, rfl, rfl, by decide +kernel, rfl, by decide +kernel, by decide +kernel⟩
def spAlike (K : PySem.W.Frag) (C : Addr) : Sp := fun vs H Q _ => ∃ (a b c : Addr) (ρ : Nat → Form × Bool), vs = [.ref a, .ref b, .ref c] ∧ RX.Rs K C 3 [some (.ref a), some (.ref b), some (.ref c)] ρ H ∧ ∀ H', Same H H' → Q (.bl true) H'
section
variable {P : Program} {w : World} {K : PySem.W.Frag} {mg : Str → Option Value} {base : Heap}
set_option maxHeartbeats 1000000 in
theorem ok_alike {fl C : Addr} {fd : FuncData} {n : Nat} (F : Fun K "_law_alike" "_law_alike" sL_alike fl fd) (R : ROps P w K mg base C n) (RC : RCon P w K mg base C n) : FnOk P w K mg base CX0 (n + 2) fl fd ["_law_a", "_law_b", "_law_c"] (spAlike K C) := by
  have nd := scAlike.nd
  have T := R.txt
  have sf := R.sf
  obtain ⟨g1, OO, GO⟩ := R.or_
  obtain ⟨g2, OA, GA'⟩ := R.and_
  obtain ⟨g3, OS, GS'⟩ := R.sub_
  obtain ⟨g4, OX, GX'⟩ := R.xor_
  obtain ⟨g5, OI, GI⟩ := R.inv_
  obtain ⟨g6, OE, GE'⟩ := R.eq_
  have NN := R.ne_
  obtain ⟨mc, RD, ⟨pE, gE, CE, GE⟩, pV, gV, CV, GV⟩ := RC
  refine F.ok scAlike (fun vs H Q E h => ?_) (fun cdv A outer st H vs Q E hr h => ?_)
  · obtain ⟨a, b, c, ρ, rfl, _⟩ := h
    rfl
  · obtain ⟨a, b, c, ρ, rfl, rs, q⟩ := h
    have h0 : Room n (A.deeper (envOfC "_law_alike" (defScope sL_alike) st.heap.objs.size fl cdv)) := hr.mono (by omega)
    have h1 : Room (n + 1) (A.deeper (envOfC "_law_alike" (defScope sL_alike) st.heap.objs.size fl cdv)) := hr
    refine ⟨_, (pss_cut (ps_if (PW.pt (pw_or (pt_cmpR (op_neO OE NN GE' h1 pass0) (pe_un (un_invO OI GI h0 pass0) (pe_op (op_binO (op := .BitOr) OO sf GO h0 pass0) (pv 0) (pv 1))) (pe_op (op_binO (op := .BitAnd) OA sf GA' h0 pass0) (pe_un (un_invO OI GI h0 pass0) (pv 0)) (pe_un (un_invO OI GI h0 pass0) (pv 1))) (nomark _)) (pw_or (pt_cmpR (op_neO OE NN GE' h1 pass0) (pe_un (un_invO OI GI h0 pass0) (pe_op (op_binO (op := .BitAnd) OA sf GA' h0 pass0) (pv 0) (pv 1))) (pe_op (op_binO (op := .BitOr) OO sf GO h0 pass0) (pe_un (un_invO OI GI h0 pass0) (pv 0)) (pe_un (un_invO OI GI h0 pass0) (pv 1))) (nomark _)) (pw_or (pt_cmpR (op_neO OE NN GE' h1 pass0) (pe_un (un_invO OI GI h0 pass0) (pe_un (un_invO OI GI h0 pass0) (pv 0))) (pv 0) (nomark _)) (pw_or (pt_cmpR (op_neO OE NN GE' h1 pass0) (pe_op (op_binO (op := .Sub) OS sf GS' h0 pass0) (pv 0) (pv 1)) (pe_op (op_binO (op := .BitAnd) OA sf GA' h0 pass0) (pv 0) (pe_un (un_invO OI GI h0 pass0) (pv 1))) (nomark _)) (pw_or1 (pt_cmpR (op_neO OE NN GE' h1 pass0) (pe_op (op_binO (op := .BitXor) OX sf GX' h0 pass0) (pv 0) (pv 1)) (pe_op (op_binO (op := .BitOr) OO sf GO h0 pass0) (pe_op (op_binO (op := .Sub) OS sf GS' h0 pass0) (pv 0) (pv 1)) (pe_op (op_binO (op := .Sub) OS sf GS' h0 pass0) (pv 1) (pv 0))) (nomark _))))))))
  (pss_one (ps_ret pe_bl))
  pss_nil)
  (pss_cut (ps_if (PW.pt (pw_or (pt_cmpR (op_neO OE NN GE' h1 pass0) (pe_op (op_binO (op := .BitOr) OO sf GO h0 pass0) (pv 0) (pv 1)) (pe_op (op_binO (op := .BitOr) OO sf GO h0 pass0) (pv 1) (pv 0)) (nomark _)) (pw_or (pt_cmpR (op_neO OE NN GE' h1 pass0) (pe_op (op_binO (op := .BitAnd) OA sf GA' h0 pass0) (pv 0) (pv 1)) (pe_op (op_binO (op := .BitAnd) OA sf GA' h0 pass0) (pv 1) (pv 0)) (nomark _)) (pw_or (pt_cmpR (op_neO OE NN GE' h1 pass0) (pe_op (op_binO (op := .BitOr) OO sf GO h0 pass0) (pe_op (op_binO (op := .BitOr) OO sf GO h0 pass0) (pv 0) (pv 1)) (pv 2)) (pe_op (op_binO (op := .BitOr) OO sf GO h0 pass0) (pv 0) (pe_op (op_binO (op := .BitOr) OO sf GO h0 pass0) (pv 1) (pv 2))) (nomark _)) (pw_or1 (pt_cmpR (op_neO OE NN GE' h1 pass0) (pe_op (op_binO (op := .BitAnd) OA sf GA' h0 pass0) (pv 0) (pe_op (op_binO (op := .BitOr) OO sf GO h0 pass0) (pv 1) (pv 2))) (pe_op (op_binO (op := .BitOr) OO sf GO h0 pass0) (pe_op (op_binO (op := .BitAnd) OA sf GA' h0 pass0) (pv 0) (pv 1)) (pe_op (op_binO (op := .BitAnd) OA sf GA' h0 pass0) (pv 0) (pv 2))) (nomark _)))))))
  (pss_one (ps_ret pe_bl))
  pss_nil)
  (pss_cut (ps_if (PW.pt (pw_or (pt_cmpR (op_neO OE NN GE' h1 pass0) (pe_op (op_binO (op := .BitOr) OO sf GO h0 pass0) (pv 0) (pe_sta0 (pe_glob (v := .ref C) (by rfl) T.mgC rfl) RD CE GE h0 pass0)) (pv 0) (nomark _)) (pw_or (pt_cmpR (op_neO OE NN GE' h1 pass0) (pe_op (op_binO (op := .BitAnd) OA sf GA' h0 pass0) (pv 0) (pe_sta0 (pe_glob (v := .ref C) (by rfl) T.mgC rfl) RD CV GV h0 pass0)) (pv 0) (nomark _)) (pw_or (pt_cmpR (op_neO OE NN GE' h1 pass0) (pe_op (op_binO (op := .Sub) OS sf GS' h0 pass0) (pv 0) (pv 0)) (pe_sta0 (pe_glob (v := .ref C) (by rfl) T.mgC rfl) RD CE GE h0 pass0) (nomark _)) (pw_or1 (pt_cmpR (op_neO OE NN GE' h1 pass0) (pe_op (op_binO (op := .BitOr) OO sf GO h0 pass0) (pv 0) (pv 0)) (pv 0) (nomark _)))))))
  (pss_one (ps_ret pe_bl))
  pss_nil)
  (pss_one (ps_ret (pe_and (pe_cmpR (op_eqO OE GE' h0 pass0) (pe_op (op_binO (op := .BitXor) OX sf GX' h0 pass0) (pe_op (op_binO (op := .BitXor) OX sf GX' h0 pass0) (pv 0) (pv 1)) (pv 2)) (pe_op (op_binO (op := .BitXor) OX sf GX' h0 pass0) (pv 0) (pe_op (op_binO (op := .BitXor) OX sf GX' h0 pass0) (pv 1) (pv 2))) (nomark _)) (pe_and (pe_cmpR (op_eqO OE GE' h0 pass0) (pe_op (op_binO (op := .BitXor) OX sf GX' h0 pass0) (pv 0) (pv 0)) (pe_sta0 (pe_glob (v := .ref C) (by rfl) T.mgC rfl) RD CE GE h0 pass0) (nomark _)) (pe_one (pe_cmpR (op_eqO OE GE' h0 pass0) (pe_op (op_binO (op := .BitOr) OO sf GO h0 pass0) (pv 0) (pe_un (un_invO OI GI h0 pass0) (pv 0))) (pe_sta0 (pe_glob (v := .ref C) (by rfl) T.mgC rfl) RD CV GV h0 pass0) (nomark _)))))))))), ?_⟩
    refine ⟨fun σ' H' => Same H H' ∧ σ' = [some (.ref a), some (.ref b), some (.ref c)], ?_, ?_⟩
    · refine RX.cmpR (ρ := ρ) (m := 3) (E := E0) true (.inv (.bin kOr (.var 0) (.var 1))) (.bin kAnd (.inv (.var 0)) (.inv (.var 1))) rs rfl rfl (by decide) (by decide) (fun v => by simp only [RX.evB]; first | done | (cases v 0 <;> cases v 1 <;> cases v 2 <;> rfl)) fun H0_0 S0_0 => ⟨_, rfl, iteF ?_⟩
      refine RX.cmpR (ρ := ρ) (m := 3) (E := E0) true (.inv (.bin kAnd (.var 0) (.var 1))) (.bin kOr (.inv (.var 0)) (.inv (.var 1))) (rs.go S0_0) rfl rfl (by decide) (by decide) (fun v => by simp only [RX.evB]; first | done | (cases v 0 <;> cases v 1 <;> cases v 2 <;> rfl)) fun H0_1 S0_1 => ⟨_, rfl, iteF ?_⟩
      refine RX.cmpR (ρ := ρ) (m := 3) (E := E0) true (.inv (.inv (.var 0))) (.var 0) (rs.go ((S0_0).trans S0_1)) rfl rfl (by decide) (by decide) (fun v => by simp only [RX.evB]; first | done | (cases v 0 <;> cases v 1 <;> cases v 2 <;> rfl)) fun H0_2 S0_2 => ⟨_, rfl, iteF ?_⟩
      refine RX.cmpR (ρ := ρ) (m := 3) (E := E0) true (.bin kSub (.var 0) (.var 1)) (.bin kAnd (.var 0) (.inv (.var 1))) (rs.go ((((S0_0).trans S0_1)).trans S0_2)) rfl rfl (by decide) (by decide) (fun v => by simp only [RX.evB]; first | done | (cases v 0 <;> cases v 1 <;> cases v 2 <;> rfl)) fun H0_3 S0_3 => ⟨_, rfl, iteF ?_⟩
      refine RX.cmpR (ρ := ρ) (m := 3) (E := E0) true (.bin kXor (.var 0) (.var 1)) (.bin kOr (.bin kSub (.var 0) (.var 1)) (.bin kSub (.var 1) (.var 0))) (rs.go ((((((S0_0).trans S0_1)).trans S0_2)).trans S0_3)) rfl rfl (by decide) (by decide) (fun v => by simp only [RX.evB]; first | done | (cases v 0 <;> cases v 1 <;> cases v 2 <;> rfl)) fun H0_4 S0_4 => ⟨_, rfl, iteF ?_⟩
      exact ⟨((((((((S0_0).trans S0_1)).trans S0_2)).trans S0_3)).trans S0_4), rfl⟩
    rintro _ G1 ⟨T1, rfl⟩
    refine ⟨fun σ' H' => Same H H' ∧ σ' = [some (.ref a), some (.ref b), some (.ref c)], ?_, ?_⟩
    · refine RX.cmpR (ρ := ρ) (m := 3) (E := E0) true (.bin kOr (.var 0) (.var 1)) (.bin kOr (.var 1) (.var 0)) (rs.go T1) rfl rfl (by decide) (by decide) (fun v => by simp only [RX.evB]; first | done | (cases v 0 <;> cases v 1 <;> cases v 2 <;> rfl)) fun H1_0 S1_0 => ⟨_, rfl, iteF ?_⟩
      refine RX.cmpR (ρ := ρ) (m := 3) (E := E0) true (.bin kAnd (.var 0) (.var 1)) (.bin kAnd (.var 1) (.var 0)) (rs.go ((T1).trans S1_0)) rfl rfl (by decide) (by decide) (fun v => by simp only [RX.evB]; first | done | (cases v 0 <;> cases v 1 <;> cases v 2 <;> rfl)) fun H1_1 S1_1 => ⟨_, rfl, iteF ?_⟩
      refine RX.cmpR (ρ := ρ) (m := 3) (E := E0) true (.bin kOr (.bin kOr (.var 0) (.var 1)) (.var 2)) (.bin kOr (.var 0) (.bin kOr (.var 1) (.var 2))) (rs.go ((((T1).trans S1_0)).trans S1_1)) rfl rfl (by decide) (by decide) (fun v => by simp only [RX.evB]; first | done | (cases v 0 <;> cases v 1 <;> cases v 2 <;> rfl)) fun H1_2 S1_2 => ⟨_, rfl, iteF ?_⟩
      refine RX.cmpR (ρ := ρ) (m := 3) (E := E0) true (.bin kAnd (.var 0) (.bin kOr (.var 1) (.var 2))) (.bin kOr (.bin kAnd (.var 0) (.var 1)) (.bin kAnd (.var 0) (.var 2))) (rs.go ((((((T1).trans S1_0)).trans S1_1)).trans S1_2)) rfl rfl (by decide) (by decide) (fun v => by simp only [RX.evB]; first | done | (cases v 0 <;> cases v 1 <;> cases v 2 <;> rfl)) fun H1_3 S1_3 => ⟨_, rfl, iteF ?_⟩
      exact ⟨((((((((T1).trans S1_0)).trans S1_1)).trans S1_2)).trans S1_3), rfl⟩
    rintro _ G2 ⟨T2, rfl⟩
    refine ⟨fun σ' H' => Same H H' ∧ σ' = [some (.ref a), some (.ref b), some (.ref c)], ?_, ?_⟩
    · refine RX.cmpR (ρ := ρ) (m := 3) (E := E0) true (.bin kOr (.var 0) (.con true)) (.var 0) (rs.go T2) rfl rfl (by decide) (by decide) (fun v => by simp only [RX.evB]; first | done | (cases v 0 <;> cases v 1 <;> cases v 2 <;> rfl)) fun H2_0 S2_0 => ⟨_, rfl, iteF ?_⟩
      refine RX.cmpR (ρ := ρ) (m := 3) (E := E0) true (.bin kAnd (.var 0) (.con false)) (.var 0) (rs.go ((T2).trans S2_0)) rfl rfl (by decide) (by decide) (fun v => by simp only [RX.evB]; first | done | (cases v 0 <;> cases v 1 <;> cases v 2 <;> rfl)) fun H2_1 S2_1 => ⟨_, rfl, iteF ?_⟩
      refine RX.cmpR (ρ := ρ) (m := 3) (E := E0) true (.bin kSub (.var 0) (.var 0)) (.con true) (rs.go ((((T2).trans S2_0)).trans S2_1)) rfl rfl (by decide) (by decide) (fun v => by simp only [RX.evB]; first | done | (cases v 0 <;> cases v 1 <;> cases v 2 <;> rfl)) fun H2_2 S2_2 => ⟨_, rfl, iteF ?_⟩
      refine RX.cmpR (ρ := ρ) (m := 3) (E := E0) true (.bin kOr (.var 0) (.var 0)) (.var 0) (rs.go ((((((T2).trans S2_0)).trans S2_1)).trans S2_2)) rfl rfl (by decide) (by decide) (fun v => by simp only [RX.evB]; first | done | (cases v 0 <;> cases v 1 <;> cases v 2 <;> rfl)) fun H2_3 S2_3 => ⟨_, rfl, iteF ?_⟩
      exact ⟨((((((((T2).trans S2_0)).trans S2_1)).trans S2_2)).trans S2_3), rfl⟩
    rintro _ G3 ⟨T3, rfl⟩
    refine RX.cmpR (ρ := ρ) (m := 3) (E := E0) false (.bin kXor (.bin kXor (.var 0) (.var 1)) (.var 2)) (.bin kXor (.var 0) (.bin kXor (.var 1) (.var 2))) (rs.go T3) rfl rfl (by decide) (by decide) (fun v => by simp only [RX.evB]; first | done | (cases v 0 <;> cases v 1 <;> cases v 2 <;> rfl)) fun H9_0 S9_0 => ⟨_, rfl, iteT ?_⟩
    refine RX.cmpR (ρ := ρ) (m := 3) (E := E0) false (.bin kXor (.var 0) (.var 0)) (.con true) (rs.go (T3.trans S9_0)) rfl rfl (by decide) (by decide) (fun v => by simp only [RX.evB]; first | done | (cases v 0 <;> cases v 1 <;> cases v 2 <;> rfl)) fun H9_1 S9_1 => ⟨_, rfl, iteT ?_⟩
    exact RX.cmpR (ρ := ρ) (m := 3) (E := E0) false (.bin kOr (.var 0) (.inv (.var 0))) (.con false) (rs.go ((T3.trans S9_0).trans S9_1)) rfl rfl (by decide) (by decide) (fun v => by simp only [RX.evB]; first | done | (cases v 0 <;> cases v 1 <;> cases v 2 <;> rfl)) fun H9_2 S9_2 => q _ (((T3.trans S9_0).trans S9_1).trans S9_2)
end
end Vf

set_option Elab.async false
set_option linter.all false
set_option maxRecDepth 100000
set_option exponentiation.threshold 3000
/-! What the ends of laws share. -/
namespace Vf
open PySem PySem.Spec PyProof.Rows L2
open Fm (Spans Form Slab Keep)
def spLaw (K : PySem.W.Frag) : Sp := fun vs H Q _ => ∃ (a : Addr) (ns : List Int), vs = [.ref a] ∧ SqL K H a (ns.map V.int) ∧ ns.length ≤ 63 ∧ ∀ H', Q (.bl true) H'
def turns4 (m : Int) : Int := if (if 4 < m then 4 else m) > 1 then (if 4 < m then 4 else m) else 1
theorem turns4_in (m : Int) : 1 ≤ turns4 m ∧ turns4 m ≤ 4 := by
  unfold turns4
  split <;> split <;> omega
theorem Rg.but {K : PySem.W.Frag} {C a p : Addr} {H H' : Hp} {f : Form} {b : Bool} {l : List V} (hp : H p = some (.lst l)) (B : But p H H') (h : Rg K C a H f b) : Rg K C a H' f b := by
  obtain ⟨dx, v, e, d⟩ := h
  exact ⟨dx, v, B a _ (ne_of e hp (by simp)) e, dp_same wo_same (dp_same B.wo (dpF_wo d hp))⟩
theorem dpPs_but {K : PySem.W.Frag} {p : Addr} {H H' : Hp} {l vs : List V} {s : Spans} (hp : H p = some (.lst l)) (B : But p H H') (h : DpAll K H vs (s.map encP)) : DpAll K H' vs (s.map encP) :=
  dpAll_same wo_same (dpAll_same B.wo (dpPs_wo hp h))
theorem dpP_but {K : PySem.W.Frag} {p : Addr} {H H' : Hp} {l : List V} {v : V} {q : Int × Int} (hp : H p = some (.lst l)) (B : But p H H') (h : Dp K H v (encP q)) : Dp K H' v (encP q) :=
  dp_same wo_same (dp_same B.wo (dpP_wo h hp))
theorem shaped_prs (s : Spans) : SeqAt.shaped (.list (s.map encP)) = true := by
  unfold SeqAt.shaped
  have h1 : PyData.canLay0 (.list (s.map encP)) = true := by
    simp only [PyData.canLay0]
    exact canLay_pairs s
  have h2 : PyData.depth (.list (s.map encP)) ≤ 2 := by
    simp only [PyData.depth]
    have : PyData.depthAll (s.map encP) ≤ 1 := depthAll_mem.mpr fun d hd => by
      obtain ⟨p, _, rfl⟩ := List.mem_map.mp hd
      simp [encP, PyData.depth, PyData.depthAll]
    omega
  rw [h1, decide_eq_true (by omega)]
  rfl
theorem big_sm {n : Int} (h : Big 11 n) : n.natAbs < 2 ^ 1900 := by
  have e : (11 * 1000000000000000000000000001 : Int).natAbs < 2 ^ 1900 := by decide
  obtain ⟨h1, h2⟩ := h
  exact Nat.lt_of_le_of_lt (by omega) e
theorem isOf_form {bs : List Bx} {f : Form} (ok : ∀ b ∈ bs, okB b) (io : IsOf bs f) : f = formB bs := isOf_eq io (isOf_formB ok)
end Vf

set_option Elab.async false
set_option linter.all false
set_option maxRecDepth 100000
/-! A drawn region with its boxes, by a law. -/
namespace Vf
open PySem PySem.Spec PyProof.Rows L2
open C8 (pss_cut tCut)
open Fm (Spans Form Slab Keep)
/-- what is drawn: a list of the region, its boxes, whether it is their complement -/
structure Dr (K : PySem.W.Frag) (C : Addr) (H : Hp) (xs ys : List Int) (r g l : Addr) (us : List V) (bs : List Bx) (f : Form) (o : Bool) : Prop where
  at_ : H r = some (.lst [.ref g, .ref l, .bl o])
  rg : Rg K C g H f (!o)
  io : IsOf bs f
  hl : H l = some (.lst us)
  bx : BxA H us bs
  few : bs.length ≤ 4
  og : ∀ b ∈ bs, OnG xs ys b
theorem bxA_same {H H' : Hp} (S : Same H H') : ∀ {vs : List V} {bs : List Bx}, BxA H vs bs → BxA H' vs bs
  | _, _, .nil => .nil
  | _, _, .cons ⟨t, e, h⟩ r => .cons ⟨t, e, S _ _ h⟩ (bxA_same S r)
theorem Dr.same {K : PySem.W.Frag} {C : Addr} {H H' : Hp} {xs ys : List Int} {r g l : Addr} {us : List V} {bs : List Bx} {f : Form} {o : Bool} (S : Same H H') (d : Dr K C H xs ys r g l us bs f o) : Dr K C H' xs ys r g l us bs f o :=
  ⟨S _ _ d.at_, d.rg.same S, d.io, S _ _ d.hl, bxA_same S d.bx, d.few, d.og⟩
theorem Dr.but {K : PySem.W.Frag} {C p : Addr} {H H' : Hp} {xs ys : List Int} {r g l : Addr} {us zs : List V} {bs : List Bx} {f : Form} {o : Bool} (hp : H p = some (.lst zs)) (rp : r ≠ p) (lp : l ≠ p) (B : But p H H') (d : Dr K C H xs ys r g l us bs f o) : Dr K C H' xs ys r g l us bs f o :=
  ⟨B _ _ rp d.at_, d.rg.but hp B, d.io, B _ _ lp d.hl, d.bx.but hp B, d.few, d.og⟩
theorem Dr.ok {K : PySem.W.Frag} {C : Addr} {H : Hp} {xs ys : List Int} {r g l : Addr} {us : List V} {bs : List Bx} {f : Form} {o : Bool} (d : Dr K C H xs ys r g l us bs f o) : ∀ b ∈ bs, okB b := fun b hb => (d.og b hb).2.2.2.2
theorem Dr.sz {K : PySem.W.Frag} {C : Addr} {H : Hp} {xs ys : List Int} {r g l : Addr} {us : List V} {bs : List Bx} {f : Form} {o : Bool} (d : Dr K C H xs ys r g l us bs f o) : Sz 4 f := d.io.1.mono d.few
section
variable {P : Program} {w : World} {K : PySem.W.Frag} {mg : Str → Option Value} {base : Heap}
theorem scDrawnR : FnScope ["_law_pool_here", "_law_xs", "_law_ys", "_law_boxes_here", "_law_is_out", "_law_found", "_law_box"] ["_law_pool_here", "_law_xs", "_law_ys"] (defScope sL_drawn) := ⟨rfl, rfl, rfl, by decide +kernel, rfl, by decide +kernel, by decide +kernel⟩
def spDr (K : PySem.W.Frag) (C : Addr) : Sp := fun vs H Q _ => ∃ (p a b : Addr) (xs ys : List Int), vs = [.ref p, .ref a, .ref b] ∧ Pool H p ∧ SqL K H a (xs.map V.int) ∧ SqL K H b (ys.map V.int) ∧ a ≠ p ∧ b ≠ p ∧ 2 ≤ xs.length ∧ xs.length ≤ 10 ∧ 2 ≤ ys.length ∧ ys.length ≤ 10 ∧ Fm.Up xs ∧ Fm.Up ys ∧
  ∀ H' r g l us bs f o, But p H H' → Pool H' p → r ≠ p → l ≠ p → H r = none → H l = none → Dr K C H' xs ys r g l us bs f o → Q (.ref r) H'
theorem ok_dr {f C fB fT : Addr} {fd dB dT : FuncData} {n : Nat} (F : Fun K "_law_drawn" "_law_drawn" sL_drawn f fd) (R : RCe P w K mg base C n) (RI : RInv P w K mg base C n)
    (GB : FnOk P w K mg base CX0 n fB dB ["_law_pool_here", "_law_xs", "_law_ys", "_law_most"] (spDrawn K)) (kB : PySem.W.keepIn K (.ref fB) = true) (bB : Binds K dB ["_law_pool_here", "_law_xs", "_law_ys", "_law_most"] []) (gB : mg "_law_boxes" = some (.ref fB))
    (GT : FnOk P w K mg base CX0 n fT dT ["_law_pool_here", "_law_sides"] (spTake K)) (kT : PySem.W.keepIn K (.ref fT) = true) (bT : Binds K dT ["_law_pool_here", "_law_sides"] []) (gT : mg "_law_take" = some (.ref fT)) :
    FnOk P w K mg base CX0 (n + 1) f fd ["_law_pool_here", "_law_xs", "_law_ys"] (spDr K C) := by
  have nd := scDrawnR.nd
  obtain ⟨mc, RD, ⟨pE, gE, CE, GE⟩, pO, gO, CO, GOf⟩ := R.rd
  obtain ⟨gR, OO, GO⟩ := R.or_
  obtain ⟨gI, OI, GI⟩ := RI
  have T := R.txt
  have sf := R.sf
  refine F.ok scDrawnR (fun vs H Q E h => ?_) (fun cdv A outer st H vs Q E h0 h => ?_)
  · obtain ⟨p, a, b, xs, ys, rfl, _⟩ := h
    rfl
  · obtain ⟨p, a, b, xs, ys, rfl, P0, ha, hb, ap, bp, x2, x9, y2, y9, upx, upy, q⟩ := h
    refine ⟨_, (pss_cut (ps_par (i := 3) (j := 4) (by rfl) nd rfl rfl (by decide) rfl rfl (pa_cons (pe_call GB h0 (by rfl) gB kB bB .nil pass0 (pa_cons (pv 0) (pa_cons (pv 1) (pa_cons (pv 2) (pa_cons pe_int pa_nil))))) (pa_cons (pe_cmpR op_eq (pe_call GT h0 (by rfl) gT kT bT .nil pass0 (pa_cons (pv 0) (pa_cons pe_int pa_nil))) pe_int (nomark _)) pa_nil)) (by rfl))
  (pss_cut (ps_set (i := 5) nd rfl (Or.inl rfl) (pe_sta0 (pe_glob (v := .ref C) (by rfl) T.mgC rfl) RD CE GE h0 pass0))
  (pss_cut (ps_for PassesOwn.never rfl (pi_list (pv 3)) (pg_name (i := 6) nd rfl (Or.inl rfl))
  (pss_one (ps_set (i := 5) nd rfl (Or.inl rfl) (pe_op (op_binO (op := .BitOr) OO sf GO h0 pass0) (pv 5) (ClX.pe_cmeth (pe_glob (v := .ref C) (by rfl) T.mgC rfl) RD CO GOf h0 pass0 (pa_cons (pv 6) pa_nil))))))
  (pss_one (ps_ret (pe_lst (pa_cons (pe_ifExp (pt_val (pv 4)) (pe_un (un_invO OI GI h0 pass0) (pv 5)) (pv 5)) (pa_cons (pv 3) (pa_cons (pv 4) pa_nil))))))))), ?_⟩
    refine ⟨fun σ' H' => ∃ (l : Addr) (us : List V) (bs : List Bx) (o : Bool), But p H H' ∧ Pool H' p ∧ l ≠ p ∧ H l = none ∧ H' l = some (.lst us) ∧ BxA H' us bs ∧ bs.length ≤ 4 ∧ (∀ b ∈ bs, OnG xs ys b) ∧ σ' = [some (.ref p), some (.ref a), some (.ref b), some (.ref l), some (.bl o), none, none], ?_, ?_⟩
    · refine ⟨.ref p, rfl, .ref a, rfl, .ref b, rfl, p, a, b, xs, ys, 4, rfl, P0, ha, hb, ap, bp, x2, x9, y2, y9, upx, upy, by decide, fun H1 l us bs B1 P1 ln hl bx bl og => ?_⟩
      have lp := pool_ne P0 ln
      refine ⟨.ref p, rfl, p, 2, rfl, P1, by decide, by decide, fun v o v0 v1 P2 => ?_⟩
      obtain ⟨z1, z2, ez, _⟩ := id P1
      have B2 : But p H1 (upd H1 p o) := But.at
      exact ⟨rfl, _, _, rfl, l, us, bs, _, B1.trans B2, P2, lp, ln, B2 _ _ lp hl, bx.but ez B2, bl, og, rfl⟩
    rintro _ H1 ⟨l, us, bs, out, B1, P1, lp, ln, hl, bx, bl, og, rfl⟩
    have ok : ∀ b ∈ bs, okB b := fun b hb => (og b hb).2.2.2.2
    have db := bx.dp (K := K)
    have hlL : SqL K H1 l us := .inl (.inl hl)
    refine ⟨fun σ' H' => ∃ x, Same H1 H' ∧ Rg K C x H' [] true ∧ σ' = [some (.ref p), some (.ref a), some (.ref b), some (.ref l), some (.bl out), some (.ref x), none], ⟨rfl, rfl, fun H2 x S r1 => ⟨x, S, r1, rfl⟩⟩, ?_⟩
    rintro _ H2 ⟨x0, S2, r0, rfl⟩
    refine ⟨fun σ' H' => ∃ x f o, Same H1 H' ∧ Rg K C x H' f true ∧ IsOf bs f ∧ σ' = [some (.ref p), some (.ref a), some (.ref b), some (.ref l), some (.bl out), some (.ref x), o], ?_, ?_⟩
    · refine ⟨.ref l, rfl, l, rfl, ⟨_, S2.seq hlL⟩, wkS us.length (fun i σ H' => ∃ x f o, Same H1 H' ∧ Rg K C x H' f true ∧ IsOf (bs.take i) f ∧ σ = [some (.ref p), some (.ref a), some (.ref b), some (.ref l), some (.bl out), some (.ref x), o]) ⟨x0, [], none, S2, r0, isOf_nil, rfl⟩ (fun i σ H3 hi r => ?_) (fun σ H3 r => ?_)⟩
      · obtain ⟨x, f, o, S3, rx, io, rfl⟩ := r
        refine tl_go (S3.seq hlL) hi (fun z hz => ?_)
        obtain ⟨d, hd1, hd2⟩ := dpAll_get db hz
        rw [List.getElem?_map] at hd1
        obtain ⟨b, hbi, rfl⟩ := Option.map_eq_some_iff.mp hd1
        have okb := ok b (List.mem_of_getElem? hbi)
        have ok1 : ∀ c ∈ [b], okB c := fun c hc => by
          rw [List.mem_singleton.mp hc]
          exact okb
        refine ⟨.ref x, rfl, rfl, z, rfl, [z], [b], rfl, ⟨.cons (dp_same S3 hd2) .nil, ok1, bfew_of (by show 1 ≤ 400; decide)⟩, fun H4 y S4 ry => ?_⟩
        have ib := isOf_formB ok1
        have tl : (bs.take i).length ≤ 100 := by
          rw [List.length_take]
          omega
        refine ⟨x, y, rfl, rfl, (rx.same S4).ins, ry.ins, x, y, rfl, f, true, formB [b], true, (bs.take i).length, 1, rx.same S4, ry, io.1, ib.1, by omega, by decide, fun H5 v S5 rv => ?_⟩
        refine ⟨v, _, _, (S3.trans S4).trans S5, rv, ?_, rfl⟩
        rw [List.take_add_one, hbi]
        exact isOf_or io ib
      · obtain ⟨x, f, o, S3, rx, io, rfl⟩ := r
        have ul : us.length = bs.length := (dpAll_len db).trans (List.length_map ..)
        rw [ul, List.take_length] at io
        exact ⟨tl_end (S3.seq hlL), x, f, o, S3, rx, io, rfl⟩
    rintro _ H3 ⟨x, f, o, S3, rx, io, rfl⟩
    have fin : ∀ {H' : Hp} {y : Addr}, Same H3 H' → Rg K C y H' f (!out) → ∀ r, H' r = none → Q (.ref r) (upd H' r (.lst [.ref y, .ref l, .bl out])) := fun {H' y} S ry r hr => by
      have S4 := (S3.trans S).trans (same_new (o := .lst [.ref y, .ref l, .bl out]) hr)
      have rp : r ≠ p := fun z => by
        subst z
        obtain ⟨_, _, e, _⟩ := pool_same P1 (S3.trans S)
        rw [e] at hr
        cases hr
      have rn : H r = none := by
        cases e : H r with
        | none => rfl
        | some o =>
          have := (S3.trans S) _ _ (B1 _ _ rp e)
          rw [hr] at this
          cases this
      exact q _ r y l us bs f out (B1.trans (But.of S4)) (pool_same P1 S4) rp lp rn ln ⟨upd_same, ry.same (same_new hr), io, S4 _ _ hl, bxA_same S4 bx, bl, og⟩
    refine ⟨.bl out, rfl, out, rfl, ?_⟩
    cases out with
    | true => exact iteT ⟨.ref x, rfl, x, rfl, rx.ins, x, f, true, rfl, rx, fun H' y S r => ⟨.ref l, rfl, .bl true, rfl, (by show 3 ≤ sizeLine; decide), fun r' hr' => fin S r r' hr'⟩⟩
    | false => exact iteF ⟨.ref x, rfl, .ref l, rfl, .bl false, rfl, (by show 3 ≤ sizeLine; decide), fun r' hr' => fin (fun _ _ e => e) rx r' hr'⟩
theorem scInL : FnScope ["_law_one", "_law_square"] ["_law_one", "_law_square"] (defScope sL_in) := ⟨rfl, rfl, rfl, by decide +kernel, rfl, by decide +kernel, by decide +kernel⟩
def spInL (K : PySem.W.Frag) : Sp := fun vs H Q _ => ∃ (r l : Addr) (g z : V) (us : List V) (bs : List Bx) (o : Bool) (x y : Int), vs = [.ref r, z] ∧ H r = some (.lst [g, .ref l, .bl o]) ∧ SqL K H l us ∧ DpAll K H us (bs.map encB) ∧ bs.length ≤ 1000 ∧ Dp K H z (.tuple [.int x, .int y]) ∧ ∀ H', Same H H' → Q (.bl (hasL bs x y != o)) H'
theorem ok_inL {f fH : Addr} {fd dH : FuncData} {n : Nat} (F : Fun K "_law_in" "_law_in" sL_in f fd)
    (GH : FnOk P w K mg base CX0 n fH dH ["_law_boxes_here", "_law_square"] (spHasL K)) (kH : PySem.W.keepIn K (.ref fH) = true) (bH : Binds K dH ["_law_boxes_here", "_law_square"] []) (gH : mg "_law_has" = some (.ref fH)) :
    FnOk P w K mg base CX0 (n + 1) f fd ["_law_one", "_law_square"] (spInL K) := by
  refine F.ok scInL (fun vs H Q E h => ?_) (fun cdv A outer st H vs Q E h0 h => ?_)
  · obtain ⟨r, l, g, z, us, bs, o, x, y, rfl, _⟩ := h
    rfl
  · obtain ⟨r, l, g, z, us, bs, o, x, y, rfl, hr, hl, db, sz, dz, q⟩ := h
    refine ⟨_, (pss_one (ps_ret (pe_cmpR op_ne (pe_call GH h0 (by rfl) gH kH bH .nil pass0 (pa_cons (pe_ix ix_list (pv 0) pe_int (fun _ _ => rfl)) (pa_cons (pv 1) pa_nil))) (pe_ix ix_list (pv 0) pe_int (fun _ _ => rfl)) (nomark _)))), ?_⟩
    refine ⟨.ref r, rfl, r, _, 1, .ref l, rfl, rfl, .inl (.inl hr), atI_nat (j := 1) rfl, z, rfl, l, z, us, bs, x, y, rfl, hl, db, dz, sz, fun H1 S1 => ?_⟩
    refine ⟨.ref r, rfl, r, _, 2, .bl o, rfl, rfl, .inl (.inl (S1 _ _ hr)), atI_nat (j := 2) rfl, rfl, ?_⟩
    rw [show V.bl (!decide (V.bl (hasL bs x y) = V.bl o)) = V.bl (hasL bs x y != o) by cases hasL bs x y <;> cases o <;> rfl]
    exact q H1 S1
end
end Vf

set_option Elab.async false
set_option linter.all false
set_option maxRecDepth 100000
/-! New pairs. -/
namespace Vf
open PySem PySem.Spec PyProof.Rows L2
/-- new pairs, each a tuple of its own -/
def PrA (H : Hp) : List V → List (Int × Int) → Prop := Paired (fun v b => ∃ t, v = .ref t ∧ H t = some (.tup [.int b.1, .int b.2]))
theorem PrA.but {H H' : Hp} {p : Addr} {l : List V} (hp : H p = some (.lst l)) (B : But p H H') : ∀ {vs : List V} {bs : List (Int × Int)}, PrA H vs bs → PrA H' vs bs
  | _, _, .nil => .nil
  | _, _, .cons ⟨t, e, h⟩ r => .cons ⟨t, e, B t _ (ne_of h hp (by simp)) h⟩ (PrA.but hp B r)
theorem PrA.dp {K : PySem.W.Frag} {H : Hp} : ∀ {vs : List V} {bs : List (Int × Int)}, PrA H vs bs → DpAll K H vs (bs.map encP)
  | _, _, .nil => .nil
  | _, _, .cons ⟨t, e, h⟩ r => by
    subst e
    exact .cons (.tup (.inl (.inl h)) (.cons (.int _) (.cons (.int _) .nil))) (PrA.dp r)
end Vf

set_option Elab.async false
set_option linter.all false
set_option maxRecDepth 100000
/-! The squares that a law asks about. -/
namespace Vf
open PySem PySem.Spec PyProof.Rows L2
open C8 (pss_cut tCut)
theorem scProbes : FnScope ["_law_xs", "_law_ys", "_law_found", "_law_x", "_law_line", "_law_y"] ["_law_xs", "_law_ys"] (defScope sProbes) := ⟨rfl, rfl, rfl, by decide +kernel, rfl, by decide +kernel, by decide +kernel⟩
/-- lines and what is just below them -/
def ext (zs : List Int) : List Int := ([zs.headD 0 - 1] ++ zs) ++ (zs.drop 1).map (· - 1)
abbrev tExt (K : PySem.W.Frag) (j : Nat) : TE := tOp rCat (tOp rCat (tLst (tCons (tOp (rI0 fun i j => .int (i - j)) (tOp (rIxL K) (tVar j) (tC (.int 0))) (tC (.int 1))) tNil)) (tVar j))
  (tLc (iList K (tSl (rSlL K) (tVar j) (tPart (tC (.int 1))) tNoPart)) (gName 4) tYes (tOp (rI0 fun i j => .int (i - j)) (tVar 4) (tC (.int 1))) [4])
theorem rd_ext {K : PySem.W.Frag} {s0 s1 s2 s3 s4 s5 : Option V} {H : Hp} {Q : VK} {j : Nat} {a : Addr} {zs : List Int} (h0 : [s0, s1, s2, s3, s4, s5][j]? = some (some (.ref a))) (hj : j < 4) (ha : H a = some (.lst (zs.map V.int))) (ne : 1 ≤ zs.length) (sz : zs.length ≤ 10)
    (q : ∀ H' l, Same H H' → H' l = some (.lst ((ext zs).map V.int)) → Q (.ref l) H') : tExt K j [s0, s1, s2, s3, s4, s5] H Q := by
  obtain ⟨z, rest, rfl⟩ : ∃ z rest, zs = z :: rest := by
    cases zs with
    | nil => simp at ne
    | cons z rest => exact ⟨z, rest, rfl⟩
  have Lq : SqL K H a ((z :: rest).map V.int) := .inl (.inl ha)
  refine ⟨.ref a, h0, a, _, 0, .int z, rfl, rfl, Lq, atI_nat (j := 0) rfl, z, 1, rfl, rfl, (by show 1 ≤ sizeLine; decide), fun l1 hl1 => ?_⟩
  have S1 := same_new (o := .lst [.int (z - 1)]) hl1
  have g1 := upd_same (H := H) (a := l1) (o := .lst [.int (z - 1)])
  generalize upd H l1 (.lst [.int (z - 1)]) = H1 at S1 g1
  have sml : (z :: rest).length ≤ 10 := sz
  have len : ((z :: rest).map V.int).length ≤ 10 := by rw [List.length_map]; exact sz
  refine ⟨.ref a, h0, l1, a, _, _, rfl, rfl, g1, S1 _ _ ha, Nat.le_trans (show 1 + ((z :: rest).map V.int).length ≤ 30 by omega) (by decide), fun l2 hl2 => ?_⟩
  have S2 := same_new (o := .lst ([.int (z - 1)] ++ (z :: rest).map V.int)) hl2
  have g2 := upd_same (H := H1) (a := l2) (o := .lst ([.int (z - 1)] ++ (z :: rest).map V.int))
  generalize upd H1 l2 (.lst ([.int (z - 1)] ++ (z :: rest).map V.int)) = H2 at S2 g2
  have S02 := S1.trans S2
  refine ⟨.ref a, h0, 1, rfl, a, _, rfl, .inl (.inl (S02 _ _ ha)), fun l3 hl3 => ?_⟩
  have S3 := same_new (o := .lst (cutV ((z :: rest).map V.int) (some 1) none)) hl3
  have e3 : cutV ((z :: rest).map V.int) (some 1) none = rest.map V.int := by
    have := cut_from ((z :: rest).map V.int) 1
    exact this
  have g3 := upd_same (H := H2) (a := l3) (o := .lst (cutV ((z :: rest).map V.int) (some 1) none))
  rw [e3] at g3 S3 ⊢
  generalize upd H2 l3 (.lst (rest.map V.int)) = H3 at S3 g3
  refine ⟨l3, rfl, ⟨_, .inl (.inl g3)⟩, fun D hD => ?_⟩
  have S03 := S02.trans S3
  refine wk rest.length (fun i H' => Same H3 H' ∧ H' D = some (.lst (((rest.take i).map (· - 1)).map V.int))) ⟨same_new hD, upd_same⟩ (fun i H4 hi r => ?_) (fun H4 r => ?_)
  · obtain ⟨S4, hL⟩ := r
    refine tl_go (xs := rest.map V.int) (.inl (.inl (S4 _ _ g3))) (by rw [List.length_map]; exact hi) (fun x hx => ?_)
    rw [List.getElem?_map, List.getElem?_eq_getElem hi] at hx
    obtain rfl := (Option.some.inj hx).symm
    refine ⟨rfl, .int rest[i], rfl, rest[i], 1, rfl, rfl, _, hL, ?_, same_grow S4 hD, ?_⟩
    · rw [List.length_map, List.length_map, List.length_take]
      rw [List.length_cons] at sml
      exact Nat.lt_of_le_of_lt (show _ ≤ 10 by omega) (by decide)
    · rw [upd_same, List.take_add_one, List.getElem?_eq_getElem hi, List.map_append, List.map_append]
      rfl
  · obtain ⟨S4, hL⟩ := r
    rw [List.take_length] at hL
    have st := tl_end (K := K) (H := H4) (a := l3) (xs := rest.map V.int) (.inl (.inl (S4 _ _ g3)))
    rw [List.length_map] at st
    have rl : rest.length ≤ 10 := by
      rw [List.length_cons] at sml
      omega
    refine ⟨st, l2, D, _, _, rfl, rfl, S4 _ _ (S3 _ _ g2), hL, ?_, fun l5 hl5 => q _ l5 ((S03.trans S4).trans (same_new hl5)) ?_⟩
    · simp only [List.length_append, List.length_map, List.length_cons, List.length_nil]
      exact Nat.le_trans (show _ ≤ 100 by omega) (by decide)
    · rw [upd_same]
      unfold ext
      simp only [List.map_append, List.headD_cons, List.drop_succ_cons, List.drop_zero]
      rfl
theorem ext_len {zs : List Int} (h : zs.length ≤ 10) : (ext zs).length ≤ 21 := by
  unfold ext
  simp only [List.length_append, List.length_map, List.length_cons, List.length_nil, List.length_drop]
  omega
section
variable {P : Program} {w : World} {K : PySem.W.Frag} {mg : Str → Option Value} {base : Heap}
def spProbes (K : PySem.W.Frag) : Sp := fun vs H Q _ => ∃ (a b : Addr) (xs ys : List Int), vs = [.ref a, .ref b] ∧ H a = some (.lst (xs.map V.int)) ∧ H b = some (.lst (ys.map V.int)) ∧ 1 ≤ xs.length ∧ xs.length ≤ 10 ∧ 1 ≤ ys.length ∧ ys.length ≤ 10 ∧
  ∀ (H' : Hp) (l : Addr) (us : List V) (sqs : List (Int × Int)), Same H H' → H l = none → H' l = some (.lst us) → DpAll K H' us (sqs.map encP) → sqs.length ≤ 500 → (∀ x ∈ ext xs, ∀ y ∈ ext ys, (x, y) ∈ sqs) → Q (.ref l) H'
theorem ok_probes {f : Addr} {fd : FuncData} {n : Nat} (F : Fun K "_law_probes" "_law_probes" sProbes f fd) : FnOk P w K mg base CX0 (n + 1) f fd ["_law_xs", "_law_ys"] (spProbes K) := by
  have nd := scProbes.nd
  refine F.ok scProbes (fun vs H Q E h => ?_) (fun cdv A outer st H vs Q E hr h => ?_)
  · obtain ⟨a, b, xs, ys, rfl, _⟩ := h
    rfl
  · obtain ⟨a, b, xs, ys, rfl, ha, hb, x1, x9, y1, y9, q⟩ := h
    refine ⟨_, (pss_cut (ps_set (i := 2) nd rfl (Or.inl rfl) (pe_lst pa_nil))
  (pss_cut (ps_for PassesOwn.never rfl (pi_list (pe_op op_cat (pe_op op_cat (pe_lst (pa_cons (pe_op op_sub (pe_ix (r := rIxL K) ix_list (pv 0) pe_int (fun _ _ => rfl)) pe_int) pa_nil)) (pv 0)) (pe_lc (own := [("_law_line", 4)]) (g := (gName 4)) (tt := tYes) rfl nd (pi_list (pe_slice (r := rSlL K) sl_list (pv 0) (po_some pe_int) po_none)) (blkOk_by (N := ["_law_xs", "_law_ys", "_law_found", "_law_x", "_law_line", "_law_y"]) (sc := defScope sProbes) (by decide +kernel)) (fun _ _ _ _ _ => (pg_name (i := 4) nd rfl (Or.inl rfl))) (fun _ _ _ _ _ => pts_nil) (fun _ _ _ _ _ => (pe_op op_sub (pv 4) pe_int))))) (pg_name (i := 3) nd rfl (Or.inr rfl))
  (pss_one (ps_set (i := 2) nd rfl (Or.inl rfl) (pe_op op_cat (pv 2) (pe_lc (own := [("_law_y", 5)]) (g := (gName 5)) (tt := tYes) rfl nd (pi_list (pe_op op_cat (pe_op op_cat (pe_lst (pa_cons (pe_op op_sub (pe_ix (r := rIxL K) ix_list (pv 1) pe_int (fun _ _ => rfl)) pe_int) pa_nil)) (pv 1)) (pe_lc (own := [("_law_line", 4)]) (g := (gName 4)) (tt := tYes) rfl nd (pi_list (pe_slice (r := rSlL K) sl_list (pv 1) (po_some pe_int) po_none)) (blkOk_by (N := ["_law_xs", "_law_ys", "_law_found", "_law_x", "_law_line", "_law_y"]) (sc := defScope sProbes) (by decide +kernel)) (fun _ _ _ _ _ => (pg_name (i := 4) nd rfl (Or.inl rfl))) (fun _ _ _ _ _ => pts_nil) (fun _ _ _ _ _ => (pe_op op_sub (pv 4) pe_int))))) (blkOk_by (N := ["_law_xs", "_law_ys", "_law_found", "_law_x", "_law_line", "_law_y"]) (sc := defScope sProbes) (by decide +kernel)) (fun _ _ _ _ _ => (pg_name (i := 5) nd rfl (Or.inl rfl))) (fun _ _ _ _ _ => pts_nil) (fun _ _ _ _ _ => (pe_tup (pa_cons (pv 3) (pa_cons (pv 5) pa_nil)))))))))
  (pss_one (ps_ret (pv 2))))), ?_⟩
    refine ⟨fun σ' H' => ∃ l, Same H H' ∧ H l = none ∧ H' l = some (.lst []) ∧ σ' = [some (.ref a), some (.ref b), some (.ref l), none, none, none], ⟨Nat.zero_le _, fun l hl => ⟨l, same_new hl, hl, upd_same, rfl⟩⟩, ?_⟩
    rintro _ H1 ⟨l0, S1, n0, h0, rfl⟩
    refine ⟨fun σ' H' => ∃ (l : Addr) (us : List V) (sqs : List (Int × Int)) (o3 o4 o5 : Option V), Same H H' ∧ H l = none ∧ H' l = some (.lst us) ∧ DpAll K H' us (sqs.map encP) ∧ sqs.length ≤ 500 ∧ (∀ x ∈ ext xs, ∀ y ∈ ext ys, (x, y) ∈ sqs) ∧ σ' = [some (.ref a), some (.ref b), some (.ref l), o3, o4, o5], ?_, ?_⟩
    · refine rd_ext (j := 0) rfl (by decide) (S1 _ _ ha) x1 x9 fun H2 lx S2 hx => ?_
      have S02 := S1.trans S2
      refine ⟨lx, rfl, ⟨_, .inl (.inl hx)⟩, wkS (ext xs).length (fun i σ H' => ∃ (l : Addr) (us : List V) (sqs : List (Int × Int)) (o3 o4 o5 : Option V), Same H2 H' ∧ H l = none ∧ H' l = some (.lst us) ∧ DpAll K H' us (sqs.map encP) ∧ sqs.length ≤ 21 * i ∧ (∀ x ∈ (ext xs).take i, ∀ y ∈ ext ys, (x, y) ∈ sqs) ∧ σ = [some (.ref a), some (.ref b), some (.ref l), o3, o4, o5]) ⟨l0, [], [], none, none, none, fun _ _ e => e, n0, S2 _ _ h0, .nil, Nat.zero_le _, (fun x h => by simp at h), rfl⟩ (fun i σ H3 hi r => ?_) (fun σ H3 r => ?_)⟩
      · obtain ⟨l, us, sqs, o3, o4, o5, S3, ln, hl, du, sl, mb, rfl⟩ := r
        refine tl_go (xs := (ext xs).map V.int) (.inl (.inl (S3 _ _ hx))) (by rw [List.length_map]; exact hi) (fun x hx' => ?_)
        rw [List.getElem?_map, List.getElem?_eq_getElem hi] at hx'
        obtain rfl := (Option.some.inj hx').symm
        have S03 := S02.trans S3
        refine ⟨.ref l, rfl, ?_⟩
        refine rd_ext (s0 := some (.ref a)) (s1 := some (.ref b)) (s2 := some (.ref l)) (s3 := some (.int (ext xs)[i])) (s4 := o4) (s5 := o5) (j := 1) rfl (by decide) (S03 _ _ hb) y1 y9 fun H4 ly S4 hy => ?_
        refine ⟨ly, rfl, ⟨_, .inl (.inl hy)⟩, fun D hD => ?_⟩
        have S34 := S4
        refine wk (ext ys).length (fun k H' => But D H4 H' ∧ H4 D = none ∧ ∃ zs ps, H' D = some (.lst zs) ∧ PrA H' zs ps ∧ ps.length = k ∧ ∀ y ∈ (ext ys).take k, ((ext xs)[i], y) ∈ ps) ⟨But.of (same_new hD), hD, [], [], upd_same, .nil, rfl, fun y h => by simp at h⟩ (fun k H5 hk r => ?_) (fun H5 r => ?_)
        · obtain ⟨B5, hD0, zs, ps, hL, pr, pk, mp⟩ := r
          have yD : ly ≠ D := ne_of_none hy hD
          refine tl_go (xs := (ext ys).map V.int) (.inl (.inl (B5 _ _ yD hy))) (by rw [List.length_map]; exact hk) (fun y hy' => ?_)
          rw [List.getElem?_map, List.getElem?_eq_getElem hk] at hy'
          obtain rfl := (Option.some.inj hy').symm
          refine ⟨rfl, .int (ext xs)[i], rfl, .int (ext ys)[k], rfl, (by show 2 ≤ sizeLine; decide), fun t ht => ?_⟩
          have S6 := same_new (o := .tup [.int (ext xs)[i], .int (ext ys)[k]]) ht
          have hL6 := S6 _ _ hL
          have zl : zs.length = ps.length := Paired.length pr
          have el := ext_len y9
          refine ⟨zs, hL6, Nat.lt_of_le_of_lt (show zs.length ≤ 30 by omega) (by decide), (B5.trans (But.of S6)).trans But.at, hD0, zs ++ [.ref t], ps ++ [((ext xs)[i], (ext ys)[k])], upd_same, ?_, by rw [List.length_append]; exact congrArg (· + 1) pk, fun y hy2 => ?_⟩
          · refine Paired.snoc ((pr.but hL (But.of S6)).but hL6 But.at) ⟨t, rfl, ?_⟩
            rw [upd_ne (ne_of (upd_same (H := H5) (a := t)) hL6 (by simp)), upd_same]
          · rw [List.take_add_one, List.getElem?_eq_getElem hk] at hy2
            rcases List.mem_append.mp hy2 with h | h
            · exact List.mem_append_left _ (mp y h)
            · rw [Option.toList_some, List.mem_singleton] at h
              subst h
              exact List.mem_append_right _ (List.mem_singleton.mpr rfl)
        · obtain ⟨B5, hD0, zs, ps, hL, pr, pk, mp⟩ := r
          have yD : ly ≠ D := ne_of_none hy hD
          have st := tl_end (K := K) (H := H5) (a := ly) (xs := (ext ys).map V.int) (.inl (.inl (B5 _ _ yD hy)))
          rw [List.length_map] at st
          have S45 : Same H4 H5 := fun c u e => B5 c u (ne_of_none e hD0) e
          have zl : zs.length = ps.length := Paired.length pr
          have el := ext_len y9
          have exl := ext_len x9
          have ul : us.length = sqs.length := (dpAll_len du).trans (List.length_map ..)
          refine ⟨st, l, D, _, _, rfl, rfl, (S4.trans S45) _ _ hl, hL, Nat.le_trans (show us.length + zs.length ≤ 1000 by omega) (by decide), fun l6 hl6 => ?_⟩
          have S6 := same_new (o := .lst (us ++ zs)) hl6
          have S36 := (S4.trans S45).trans S6
          refine ⟨l6, us ++ zs, sqs ++ ps, _, _, _, S3.trans S36, (S03.trans (S4.trans S45)).free hl6, upd_same, ?_, by rw [List.length_append]; omega, fun x hx2 y hy2 => ?_, rfl⟩
          · rw [List.map_append]
            exact dpAll_app (dpAll_same S36 du) (dpAll_same S6 pr.dp)
          · rw [List.take_add_one, List.getElem?_eq_getElem hi] at hx2
            rcases List.mem_append.mp hx2 with h | h
            · exact List.mem_append_left _ (mb x h y hy2)
            · rw [Option.toList_some, List.mem_singleton] at h
              subst h
              rw [List.take_length] at mp
              exact List.mem_append_right _ (mp y hy2)
      · obtain ⟨l, us, sqs, o3, o4, o5, S3, ln, hl, du, sl, mb, rfl⟩ := r
        have st := tl_end (K := K) (H := H3) (a := lx) (xs := (ext xs).map V.int) (.inl (.inl (S3 _ _ hx)))
        rw [List.length_map] at st
        have exl := ext_len x9
        rw [List.take_length] at mb
        exact ⟨st, l, us, sqs, o3, o4, o5, S02.trans S3, ln, hl, du, by omega, mb, rfl⟩
    rintro _ H3 ⟨l, us, sqs, o3, o4, o5, S3, ln, hl, du, sl, mb, rfl⟩
    exact ⟨.ref l, rfl, q H3 l us sqs S3 ln hl du sl mb⟩
end
end Vf

set_option Elab.async false
set_option linter.all false
set_option maxRecDepth 100000
/-! Whether it is a form, by a law. -/
namespace Vf
open PySem PySem.Spec PyProof.Rows L2
open C8 (pss_cut tCut)
open Fm (Spans Form Slab Keep)
theorem scIsSpans : FnScope ["_law_spans", "_law_one", "_law_k"] ["_law_spans"] (defScope sIsSpans) := ⟨rfl, rfl, rfl, by decide +kernel, rfl, by decide +kernel, by decide +kernel⟩
theorem kit_list : kitB "list" "list" = some true := by decide +kernel
theorem kit_tuple : kitB "tuple" "tuple" = some true := by decide +kernel
theorem shaped_pairs (s : Spans) : SeqAt.shaped (.list (s.map encP)) = true := by
  unfold SeqAt.shaped
  have h1 : PyData.canLay0 (.list (s.map encP)) = true := by
    simp only [PyData.canLay0]
    exact canLay_pairs s
  have h2 : PyData.depth (.list (s.map encP)) ≤ 2 := by
    simp only [PyData.depth]
    have : PyData.depthAll (s.map encP) ≤ 1 := depthAll_mem.mpr fun d hd => by
      obtain ⟨p, _, rfl⟩ := List.mem_map.mp hd
      simp [encP, PyData.depth, PyData.depthAll]
    omega
  rw [h1, decide_eq_true (by omega)]
  rfl
theorem ok_get : ∀ {s : Spans} {i : Nat} (h : i < s.length), Fm.Ok s → s[i].1 < s[i].2
  | _ :: _, 0, _, o => o.1
  | _ :: _, i + 1, h, o => ok_get (i := i) (by simpa using h) o.2.2
theorem ok_next : ∀ {s : Spans} {i : Nat} (h : i + 1 < s.length), Fm.Ok s → (s[i]'(by omega)).2 < s[i + 1].1
  | p :: q :: r, 0, _, o => o.2.1 q List.mem_cons_self
  | p :: r, i + 1, h, o => ok_next (s := r) (i := i) (by simpa using h) o.2.2
section
variable {P : Program} {w : World} {K : PySem.W.Frag} {mg : Str → Option Value} {base : Heap}
def spIsSpans (K : PySem.W.Frag) : Sp := fun vs H Q _ => ∃ (l : Addr) (us : List V) (s : Spans), vs = [.ref l] ∧ H l = some (.lst us) ∧ DpAll K H us (s.map encP) ∧ Fm.Ok s ∧ s ≠ [] ∧ s.length ≤ 1000 ∧ ∀ H', Same H H' → Q (.bl true) H'
theorem ok_isSpans {f : Addr} {fd : FuncData} {n : Nat} (F : Fun K "_law_is_spans" "_law_is_spans" sIsSpans f fd) (mi : mg "isinstance" = none) (mL : mg "list" = none) (mT : mg "tuple" = none) (ml : mg "len" = none) (mr : mg "range" = none) :
    FnOk P w K mg base CX0 (n + 1) f fd ["_law_spans"] (spIsSpans K) := by
  have nd := scIsSpans.nd
  refine F.ok scIsSpans (fun vs H Q E h => ?_) (fun cdv A outer st H vs Q E hr h => ?_)
  · obtain ⟨l, us, s, rfl, _⟩ := h
    rfl
  · obtain ⟨l, us, s, rfl, hl, hu, ok, ne, sz, q⟩ := h
    have ul : us.length = s.length := (dpAll_len hu).trans (List.length_map ..)
    refine ⟨_, (pss_cut (ps_if (PW.pt (pw_or (pt_not (pt_val (pe_callB call_isi (by rfl) mi (by decide +kernel) (pa_cons (pv 0) (pa_cons (pe_bltn (v := .ty "list") (by rfl) mL (by decide +kernel) rfl) pa_nil))))) (pw_or1 (pt_cmpR (op_eqD hr.units) (pv 0) (pe_lst pa_nil) (nomark _)))))
  (pss_one (ps_ret pe_bl))
  pss_nil)
  (pss_cut (ps_for PassesOwn.never rfl (pi_list (pv 0)) (pg_name (i := 1) nd rfl (Or.inl rfl))
  (pss_one (ps_if (PW.pt (pw_or (pt_not (pt_val (pe_callB call_isi (by rfl) mi (by decide +kernel) (pa_cons (pv 1) (pa_cons (pe_bltn (v := .ty "tuple") (by rfl) mT (by decide +kernel) rfl) pa_nil))))) (pw_or (pt_cmpR op_ne (pe_callB call_len_seq (by rfl) ml PySem.boot_len (pa_cons (pv 1) pa_nil)) pe_int (nomark _)) (pw_or1 (pt_cmpR op_ge (pe_ix (r := rIxT K) ix_tup (pv 1) pe_int (fun _ _ => rfl)) (pe_ix (r := rIxT K) ix_tup (pv 1) pe_int (fun _ _ => rfl)) (nomark _))))))
  (pss_one (ps_ret pe_bl))
  pss_nil)))
  (pss_one (ps_ret (pe_cmpR (op_eqD hr.units) (pe_lc (own := [("_law_k", 2)]) (g := (gName 2)) rfl nd (pi_range1 (by rfl) mr (pa_cons (pe_op op_sub (pe_callB call_len_seq (by rfl) ml PySem.boot_len (pa_cons (pv 0) pa_nil)) pe_int) pa_nil)) (blkOk_by (N := ["_law_spans", "_law_one", "_law_k"]) (sc := defScope sIsSpans) (by decide +kernel)) (fun _ _ _ _ _ => (pg_name (i := 2) nd rfl (Or.inl rfl))) (fun _ _ _ _ _ => (pts_one (pt_cmpR op_ge (pe_ix (r := rIxT K) ix_tup (pe_ix (r := rIxL K) ix_list (pv 0) (pv 2) (fun _ _ => rfl)) pe_int (fun _ _ => rfl)) (pe_ix (r := rIxT K) ix_tup (pe_ix (r := rIxL K) ix_list (pv 0) (pe_op op_add (pv 2) pe_int) (fun _ _ => rfl)) pe_int (fun _ _ => rfl)) (nomark _)))) (fun _ _ _ _ _ => (pv 2))) (pe_lst pa_nil) (nomark _)))))), ?_⟩
    have Lq : SqL K H l us := .inl (.inl hl)
    refine ⟨fun σ' H' => Same H H' ∧ σ' = [some (.ref l), none, none], ?_, ?_⟩
    · refine ⟨.ref l, rfl, .ref l, .ty "list", _, _, true, rfl, .ty _, .base (.lst hl), kit_ty kit_list, true, rfl, ?_⟩
      refine ⟨.ref l, rfl, Nat.zero_le _, fun e he => ?_⟩
      have S1 := same_new (o := .lst []) he
      refine ⟨.list (s.map encP), .list [], .lst (S1.seq Lq) (dpAll_same S1 hu), .lst (.inl (.inl upd_same)) .nil, shaped_pairs s, shaped_pairs [], _, rfl, ite2 (fun z => ?_) (fun _ => ?_)⟩
      · rw [eqv_nil, List.isEmpty_map] at z
        exact absurd (List.isEmpty_iff.mp z) ne
      · exact ⟨S1, rfl⟩
    rintro _ H1 ⟨S1, rfl⟩
    refine ⟨fun σ' H' => Same H H' ∧ ∃ o, σ' = [some (.ref l), o, none], ⟨.ref l, rfl, l, rfl, ⟨_, S1.seq Lq⟩, wkS us.length (fun i σ H' => Same H H' ∧ ∃ o, σ = [some (.ref l), o, none]) ⟨S1, none, rfl⟩ (fun i σ H2 hi r => ?_) (fun σ H2 r => ?_)⟩, ?_⟩
    · obtain ⟨S2, o, rfl⟩ := r
      refine tl_go (S2.seq Lq) hi (fun z hz => ?_)
      obtain ⟨d, hd1, hd2⟩ := dpAll_get hu hz
      have his : i < s.length := by omega
      have ed : d = encP s[i] := by
        rw [List.getElem?_map, List.getElem?_eq_getElem his] at hd1
        exact (Option.some.inj hd1).symm
      subst ed
      have ty := tyX_dp (dp_same S2 hd2)
      obtain ⟨t, rfl, ht⟩ := dp_pair (dp_same S2 hd2)
      refine ⟨.ref t, rfl, .ref t, .ty "tuple", _, _, true, rfl, .ty _, ty, kit_ty kit_tuple, true, rfl, ?_⟩
      refine ⟨.ref t, rfl, t, _, rfl, .inr ht, rfl, _, rfl, ite2 (fun z => absurd z (by simp)) (fun _ => ?_)⟩
      refine ⟨.ref t, rfl, t, _, _, .int s[i].1, rfl, rfl, ht, atI_nat (j := 0) rfl, .ref t, rfl, t, _, _, .int s[i].2, rfl, rfl, ht, atI_nat (j := 1) rfl, _, _, rfl, rfl, _, rfl, ite2 (fun z => ?_) (fun _ => ?_)⟩
      · have := of_decide_eq_true z
        have := ok_get his ok
        omega
      · exact ⟨S2, _, rfl⟩
    · obtain ⟨S2, o, rfl⟩ := r
      exact ⟨tl_end (S2.seq Lq), S2, o, rfl⟩
    rintro _ H2 ⟨S2, o, rfl⟩
    have pos : 0 < s.length := List.length_pos_iff.mpr ne
    refine ⟨.ref l, rfl, l, _, rfl, .inl (S2.seq Lq), _, 1, rfl, rfl, _, rfl, by omega, Int.lt_of_le_of_lt (show _ ≤ (1000 : Int) by omega) (by decide), fun D hD => ?_⟩
    refine wk ((us.length : Int) - 1).toNat (fun i H' => Same H2 H' ∧ H' D = some (.lst [])) ⟨same_new hD, upd_same⟩ (fun i H3 hi r => ?_) (fun H3 r => ?_)
    · obtain ⟨S3, hL⟩ := r
      have S03 := S2.trans S3
      refine tr_go hi ?_
      have his : i + 1 < s.length := by omega
      obtain ⟨v1, hv1, hd1⟩ := dpAll_at hu (i := i) (d := encP (s[i]'(by omega))) (by rw [List.getElem?_map, List.getElem?_eq_getElem (by omega)]; rfl)
      obtain ⟨v2, hv2, hd2⟩ := dpAll_at hu (i := i + 1) (d := encP s[i + 1]) (by rw [List.getElem?_map, List.getElem?_eq_getElem his]; rfl)
      obtain ⟨t1, rfl, ht1⟩ := dp_pair (dp_same S03 hd1)
      obtain ⟨t2, rfl, ht2⟩ := dp_pair (dp_same S03 hd2)
      have e1 : (0 : Int) + (i : Int) = (i : Int) := Int.zero_add _
      rw [e1]
      refine ⟨rfl, ?_⟩
      refine ⟨.ref l, rfl, .int i, rfl, l, us, i, .ref t1, rfl, rfl, S03.seq Lq, atI_nat (j := i) hv1, t1, _, _, .int (s[i]'(by omega)).2, rfl, rfl, ht1, atI_nat (j := 1) rfl, ?_⟩
      refine ⟨.ref l, rfl, .int i, rfl, i, 1, rfl, rfl, l, us, _, .ref t2, rfl, rfl, S03.seq Lq, atI_nat (j := i + 1) hv2, t2, _, _, .int s[i + 1].1, rfl, rfl, ht2, atI_nat (j := 0) rfl, _, _, rfl, rfl, _, rfl, ite2 (fun z => ?_) (fun _ => ⟨S3, hL⟩)⟩
      have := of_decide_eq_true z
      have := ok_next his ok
      omega
    · obtain ⟨S3, hL⟩ := r
      refine ⟨tr_end, Nat.zero_le _, fun e he => ?_⟩
      have S4 := same_new (o := .lst []) he
      refine ⟨.list [], .list [], .lst (.inl (.inl (S4 _ _ hL))) .nil, .lst (.inl (.inl upd_same)) .nil, shaped_pairs [], shaped_pairs [], ?_⟩
      exact q _ ((S2.trans S3).trans S4)
end
end Vf

set_option Elab.async false
set_option linter.all false
set_option maxRecDepth 100000
/-! Whether it is a form, by a law: the slabs. -/
namespace Vf
open PySem PySem.Spec PyProof.Rows L2
open C8 (pss_cut tCut)
open Fm (Spans Form Slab Keep)
theorem scIsForm : FnScope ["_law_form", "_law_one", "_law_k", "_law_before", "_law_behind"] ["_law_form"] (defScope sIsForm) := ⟨rfl, rfl, rfl, by decide +kernel, rfl, by decide +kernel, by decide +kernel⟩
theorem links_at : ∀ {f : Form} {i : Nat} (h : i + 1 < f.length), Fm.Links f → Fm.Next (f[i]'(by omega)) f[i + 1]
  | p :: q :: r, 0, _, o => o.1
  | p :: q :: r, i + 1, h, o => links_at (f := q :: r) (i := i) (by simpa using h) o.2
theorem paired_at {α β : Type} {R : α → β → Prop} : ∀ {xs : List α} {ys : List β} {i : Nat} (h : i < ys.length), Paired R xs ys → ∃ x, xs[i]? = some x ∧ R x ys[i]
  | [], [], _, h, .nil => absurd h (Nat.not_lt_zero _)
  | _ :: _, _ :: _, 0, _, .cons r _ => ⟨_, rfl, r⟩
  | _ :: xs, _ :: ys, i + 1, h, .cons _ t => by
    obtain ⟨x, h1, h2⟩ := paired_at (i := i) (by simpa using h) t
    exact ⟨x, by simpa using h1, h2⟩
section
variable {P : Program} {w : World} {K : PySem.W.Frag} {mg : Str → Option Value} {base : Heap}
def spIsForm (K : PySem.W.Frag) : Sp := fun vs H Q _ => ∃ (H0 : Hp) (D : Addr) (ws : List V) (f : Form), vs = [.ref D] ∧ Same H0 H ∧ H D = some (.lst ws) ∧ SlA K H0 H D ws f ∧ Fm.OkF f ∧ f.length ≤ 1000 ∧ (∀ p ∈ f, p.2.2.length ≤ 1000) ∧ ∀ H', Same H H' → Q (.bl true) H'
theorem ok_isForm {f fS : Addr} {fd dS : FuncData} {n : Nat} (F : Fun K "_law_is_form" "_law_is_form" sIsForm f fd)
    (GS : FnOk P w K mg base CX0 n fS dS ["_law_spans"] (spIsSpans K)) (kS : PySem.W.keepIn K (.ref fS) = true) (bS : Binds K dS ["_law_spans"] []) (gS : mg "_law_is_spans" = some (.ref fS))
    (mi : mg "isinstance" = none) (mT : mg "tuple" = none) (ml : mg "len" = none) (mr : mg "range" = none) : FnOk P w K mg base CX0 (n + 1) f fd ["_law_form"] (spIsForm K) := by
  have nd := scIsForm.nd
  refine F.ok scIsForm (fun vs H Q E h => ?_) (fun cdv A outer st H vs Q E hr h => ?_)
  · obtain ⟨H0, D, ws, f, rfl, _⟩ := h
    rfl
  · obtain ⟨H0, D, ws, f, rfl, S0, hD, sl, ok, sz, sz2, q⟩ := h
    have wl : ws.length = f.length := Paired.length sl
    refine ⟨_, (pss_cut (ps_for PassesOwn.never rfl (pi_list (pv 0)) (pg_name (i := 1) nd rfl (Or.inl rfl))
  (pss_one (ps_if (PW.pt (pw_or (pt_not (pt_val (pe_callB call_isi (by rfl) mi (by decide +kernel) (pa_cons (pv 1) (pa_cons (pe_bltn (v := .ty "tuple") (by rfl) mT (by decide +kernel) rfl) pa_nil))))) (pw_or (pt_cmpR op_ne (pe_callB call_len_seq (by rfl) ml PySem.boot_len (pa_cons (pv 1) pa_nil)) pe_int (nomark _)) (pw_or (pt_cmpR op_ge (pe_ix (r := rIxT K) ix_tup (pv 1) pe_int (fun _ _ => rfl)) (pe_ix (r := rIxT K) ix_tup (pv 1) pe_int (fun _ _ => rfl)) (nomark _)) (pw_or1 (pt_not (pt_val (pe_call GS hr (by rfl) gS kS bS .nil pass0 (pa_cons (pe_ix (r := rIxT K) ix_tup (pv 1) pe_int (fun _ _ => rfl)) pa_nil)))))))))
  (pss_one (ps_ret pe_bl))
  pss_nil)))
  (pss_cut (ps_for PassesOwn.never rfl (pi_range1 (by rfl) mr (pa_cons (pe_op op_sub (pe_callB call_len_seq (by rfl) ml PySem.boot_len (pa_cons (pv 0) pa_nil)) pe_int) pa_nil)) (pg_name (i := 2) nd rfl (Or.inl rfl))
  (pss_cut (ps_par (i := 3) (j := 4) (by rfl) nd rfl rfl (by decide) rfl rfl (pa_cons (pe_ix (r := rIxL K) ix_list (pv 0) (pv 2) (fun _ _ => rfl)) (pa_cons (pe_ix (r := rIxL K) ix_list (pv 0) (pe_op op_add (pv 2) pe_int) (fun _ _ => rfl)) pa_nil)) (by rfl))
  (pss_one (ps_if (PW.pt (pw_or (pt_cmpR op_gt (pe_ix (r := rIxT K) ix_tup (pv 3) pe_int (fun _ _ => rfl)) (pe_ix (r := rIxT K) ix_tup (pv 4) pe_int (fun _ _ => rfl)) (nomark _)) (pw_or1 (PW.pt (pw_and (pt_cmpR op_eq (pe_ix (r := rIxT K) ix_tup (pv 3) pe_int (fun _ _ => rfl)) (pe_ix (r := rIxT K) ix_tup (pv 4) pe_int (fun _ _ => rfl)) (nomark _)) (pw_and1 (pt_cmpR (op_eqD hr.units) (pe_ix (r := rIxT K) ix_tup (pv 3) pe_int (fun _ _ => rfl)) (pe_ix (r := rIxT K) ix_tup (pv 4) pe_int (fun _ _ => rfl)) (nomark _))))))))
  (pss_one (ps_ret pe_bl))
  pss_nil))))
  (pss_one (ps_ret pe_bl)))), ?_⟩
    have Lq : SqL K H D ws := .inl (.inl hD)
    refine ⟨fun σ' H' => Same H H' ∧ ∃ o, σ' = [some (.ref D), o, none, none, none], ⟨.ref D, rfl, D, rfl, ⟨_, Lq⟩, wkS ws.length (fun i σ H' => Same H H' ∧ ∃ o, σ = [some (.ref D), o, none, none, none]) ⟨fun _ _ e => e, none, rfl⟩ (fun i σ H2 hi r => ?_) (fun σ H2 r => ?_)⟩, ?_⟩
    · obtain ⟨S2, o, rfl⟩ := r
      refine tl_go (S2.seq Lq) hi (fun z hz => ?_)
      have hif : i < f.length := by omega
      obtain ⟨z', hz', t, l, us, rfl, t0, l0, lD, ht, hl, du⟩ := paired_at hif sl
      rw [hz'] at hz
      obtain rfl := Option.some.inj hz
      have ht2 := S2 _ _ ht
      have hq : SqT K H2 t [.int f[i].1, .int f[i].2.1, .ref l] := .inl (.inl ht2)
      have g := ok.good f[i] (List.getElem_mem hif)
      refine ⟨.ref t, rfl, .ref t, .ty "tuple", _, _, true, rfl, .ty _, .base (.tup ht2), kit_ty kit_tuple, true, rfl, ?_⟩
      refine ⟨.ref t, rfl, t, _, rfl, .inr hq, rfl, _, rfl, ite2 (fun z => absurd z (by simp)) (fun _ => ?_)⟩
      refine ⟨.ref t, rfl, t, _, _, .int f[i].1, rfl, rfl, hq, atI_nat (j := 0) rfl, .ref t, rfl, t, _, _, .int f[i].2.1, rfl, rfl, hq, atI_nat (j := 1) rfl, _, _, rfl, rfl, _, rfl, ite2 (fun z => ?_) (fun _ => ?_)⟩
      · have := of_decide_eq_true z
        have := g.1
        omega
      · refine ⟨.ref t, rfl, t, _, _, .ref l, rfl, rfl, hq, atI_nat (j := 2) rfl, l, us, f[i].2.2, rfl, S2 _ _ hl, dpAll_same (S0.trans S2) du, g.2.1, g.2.2, sz2 _ (List.getElem_mem hif), fun H3 S3 => ⟨true, rfl, S2.trans S3, _, rfl⟩⟩
    · obtain ⟨S2, o, rfl⟩ := r
      exact ⟨tl_end (S2.seq Lq), S2, o, rfl⟩
    rintro _ H2 ⟨S2, o, rfl⟩
    refine ⟨fun σ' H' => Same H H', ?_, fun σ' H' S' => q H' S'⟩
    refine ⟨.ref D, rfl, D, _, rfl, .inl (S2.seq Lq), _, 1, rfl, rfl, _, rfl, by omega, Int.lt_of_le_of_lt (show _ ≤ (1000 : Int) by omega) (by decide), wkS ((ws.length : Int) - 1).toNat (fun i σ H' => Same H H' ∧ ∃ o1 o2 o3 o4 : Option V, σ = [some (.ref D), o1, o2, o3, o4]) ⟨S2, _, _, _, _, rfl⟩ (fun i σ H3 hi r => ?_) (fun σ H3 r => ⟨tr_end, r.1⟩)⟩
    obtain ⟨S3, o1, o2, o3, o4, rfl⟩ := r
    refine tr_go hi ?_
    have hif : i + 1 < f.length := by omega
    obtain ⟨v1, hv1, t1, l1, us1, rfl, _, _, _, ht1, hl1, du1⟩ := paired_at (i := i) (by omega) sl
    obtain ⟨v2, hv2, t2, l2, us2, rfl, _, _, _, ht2, hl2, du2⟩ := paired_at hif sl
    have e1 : (0 : Int) + (i : Int) = (i : Int) := Int.zero_add _
    rw [e1]
    refine ⟨fun σ' H' => H' = H3 ∧ ∃ o1, σ' = [some (.ref D), o1, some (.int i), some (.ref t1), some (.ref t2)], ⟨.ref D, rfl, .int i, rfl, D, ws, i, .ref t1, rfl, rfl, S3.seq Lq, atI_nat (j := i) hv1, .ref D, rfl, .int i, rfl, i, 1, rfl, rfl, D, ws, _, .ref t2, rfl, rfl, S3.seq Lq, atI_nat (j := i + 1) hv2, _, _, rfl, rfl, o1, rfl⟩, ?_⟩
    rintro _ H4 ⟨rfl, o1', rfl⟩
    have nx := links_at hif ok.links
    have q1 : SqT K H4 t1 [.int (f[i]'(by omega)).1, .int (f[i]'(by omega)).2.1, .ref l1] := .inl (.inl (S3 _ _ ht1))
    have q2 : SqT K H4 t2 [.int f[i + 1].1, .int f[i + 1].2.1, .ref l2] := .inl (.inl (S3 _ _ ht2))
    refine ⟨.ref t1, rfl, t1, _, _, .int (f[i]'(by omega)).2.1, rfl, rfl, q1, atI_nat (j := 1) rfl, .ref t2, rfl, t2, _, _, .int f[i + 1].1, rfl, rfl, q2, atI_nat (j := 0) rfl, _, _, rfl, rfl, _, rfl, ite2 (fun z => ?_) (fun _ => ?_)⟩
    · have := of_decide_eq_true z
      have := nx.1
      omega
    · refine ⟨.ref t1, rfl, t1, _, _, .int (f[i]'(by omega)).2.1, rfl, rfl, q1, atI_nat (j := 1) rfl, .ref t2, rfl, t2, _, _, .int f[i + 1].1, rfl, rfl, q2, atI_nat (j := 0) rfl, rfl, _, rfl, ite2 (fun z => ?_) (fun z => ?_)⟩
      · have e : (f[i]'(by omega)).2.1 = f[i + 1].1 := V.int.inj (of_decide_eq_true z)
        have d1 : Dp K H4 (.ref l1) (.list ((f[i]'(by omega)).2.2.map encP)) := .lst (.inl (.inl (S3 _ _ hl1))) (dpAll_same (S0.trans S3) du1)
        have d2 : Dp K H4 (.ref l2) (.list (f[i + 1].2.2.map encP)) := .lst (.inl (.inl (S3 _ _ hl2))) (dpAll_same (S0.trans S3) du2)
        refine ⟨.ref t1, rfl, t1, _, _, .ref l1, rfl, rfl, q1, atI_nat (j := 2) rfl, .ref t2, rfl, t2, _, _, .ref l2, rfl, rfl, q2, atI_nat (j := 2) rfl, _, _, d1, d2, shaped_pairs _, shaped_pairs _, _, rfl, ite2 (fun y => ?_) (fun _ => ⟨S3, _, _, _, _, rfl⟩)⟩
        simp only [PyData.eqv] at y
        rw [eqvAll_spans] at y
        exact absurd (of_decide_eq_true y) (nx.2 e)
      · exact ⟨S3, _, _, _, _, rfl⟩
end
end Vf

set_option Elab.async false
set_option linter.all false
set_option maxRecDepth 100000
/-! Along lines, a square has a stand-in among the probes. -/
namespace Vf
open PySem PySem.Spec PyProof.Rows L2
open Fm (Spans Form Slab Keep)
theorem low_in : ∀ {zs : List Int} {z0 z : Int}, Fm.Up (z0 :: zs) → z0 ≤ z → ∃ p, p ∈ z0 :: zs ∧ ∀ l ∈ z0 :: zs, (l ≤ z ↔ l ≤ p)
  | [], z0, z, _, h => ⟨z0, List.mem_cons_self, fun l hl => by
      rw [List.mem_singleton.mp hl]
      exact ⟨fun _ => Int.le_refl _, fun _ => h⟩⟩
  | b :: r, z0, z, up, h => by
    have upr : Fm.Up (b :: r) := List.Pairwise.of_cons up
    have lt : ∀ l ∈ b :: r, z0 < l := (List.pairwise_cons.mp up).1
    by_cases hb : b ≤ z
    · obtain ⟨p, hp, hi⟩ := low_in upr hb
      refine ⟨p, List.mem_cons_of_mem _ hp, fun l hl => ?_⟩
      rcases List.mem_cons.mp hl with rfl | hl
      · have := lt p hp
        exact ⟨fun _ => by omega, fun _ => h⟩
      · exact hi l hl
    · refine ⟨z0, List.mem_cons_self, fun l hl => ?_⟩
      rcases List.mem_cons.mp hl with rfl | hl
      · exact ⟨fun _ => Int.le_refl _, fun _ => h⟩
      · have h1 := lt l hl
        have h2 : b ≤ l := by
          rcases List.mem_cons.mp hl with rfl | h3
          · exact Int.le_refl _
          · exact Int.le_of_lt ((List.pairwise_cons.mp upr).1 l h3)
        exact ⟨fun _ => by omega, fun _ => by omega⟩
theorem rep_ext {zs : List Int} (up : Fm.Up zs) (ne : 1 ≤ zs.length) (z : Int) : ∃ p ∈ ext zs, ∀ l ∈ zs, (l ≤ z ↔ l ≤ p) := by
  cases zs with
  | nil => simp at ne
  | cons z0 r =>
    by_cases h : z0 ≤ z
    · obtain ⟨p, hp, hi⟩ := low_in up h
      refine ⟨p, ?_, hi⟩
      unfold ext
      exact List.mem_append_left _ (List.mem_append_right _ hp)
    · refine ⟨z0 - 1, ?_, fun l hl => ?_⟩
      · unfold ext
        exact List.mem_append_left _ (List.mem_append_left _ (List.mem_singleton.mpr rfl))
      · have : z0 ≤ l := by
          rcases List.mem_cons.mp hl with rfl | h3
          · exact Int.le_refl _
          · exact Int.le_of_lt ((List.pairwise_cons.mp up).1 l h3)
        exact ⟨fun _ => by omega, fun _ => by omega⟩
theorem inBx_rep {xs ys : List Int} {x y p q : Int} (hx : ∀ l ∈ xs, (l ≤ x ↔ l ≤ p)) (hy : ∀ l ∈ ys, (l ≤ y ↔ l ≤ q)) {b : Bx} (o : OnG xs ys b) : inBx x y b = inBx p q b := by
  unfold inBx
  have e : ∀ {u v l : Int}, (l ≤ u ↔ l ≤ v) → decide (l ≤ u) = decide (l ≤ v) ∧ decide (u < l) = decide (v < l) := fun {u v l} h => by
    constructor
    · exact decide_eq_decide.mpr h
    · exact decide_eq_decide.mpr ⟨fun a => by
        have : ¬ l ≤ v := fun c => absurd (h.mpr c) (by omega)
        omega, fun a => by
        have : ¬ l ≤ u := fun c => absurd (h.mp c) (by omega)
        omega⟩
  rw [(e (hx _ o.1)).1, (e (hx _ o.2.1)).2, (e (hy _ o.2.2.1)).1, (e (hy _ o.2.2.2.1)).2]
theorem hasL_rep {xs ys : List Int} {x y p q : Int} (hx : ∀ l ∈ xs, (l ≤ x ↔ l ≤ p)) (hy : ∀ l ∈ ys, (l ≤ y ↔ l ≤ q)) : ∀ {bs : List Bx}, (∀ b ∈ bs, OnG xs ys b) → hasL bs x y = hasL bs p q
  | [], _ => rfl
  | b :: bs, o => by
    unfold hasL
    rw [List.any_cons, List.any_cons, inBx_rep hx hy (o b List.mem_cons_self)]
    have := hasL_rep hx hy (bs := bs) fun c hc => o c (List.mem_cons_of_mem _ hc)
    unfold hasL at this
    rw [this]
/-- every square has a stand-in -/
theorem probe_rep {xs ys : List Int} (ux : Fm.Up xs) (uy : Fm.Up ys) (x1 : 1 ≤ xs.length) (y1 : 1 ≤ ys.length) (x y : Int) :
    ∃ p ∈ ext xs, ∃ q ∈ ext ys, ∀ bs : List Bx, (∀ b ∈ bs, OnG xs ys b) → hasL bs x y = hasL bs p q := by
  obtain ⟨p, hp, hx⟩ := rep_ext ux x1 x
  obtain ⟨q, hq, hy⟩ := rep_ext uy y1 y
  exact ⟨p, hp, q, hq, fun bs o => hasL_rep hx hy o⟩
/-- far away no box is -/
theorem far_out : ∀ bs : List Bx, ∃ x, ∀ y, hasL bs x y = false
  | [] => ⟨0, fun _ => rfl⟩
  | b :: bs => by
    obtain ⟨m, hm⟩ : ∃ m : Int, ∀ c ∈ b :: bs, c.2.2.1 ≤ m := by
      generalize b :: bs = l
      induction l with
      | nil => exact ⟨0, fun _ h => nomatch h⟩
      | cons c l ih =>
        obtain ⟨m, hm⟩ := ih
        refine ⟨if c.2.2.1 ≤ m then m else c.2.2.1, fun d hd => ?_⟩
        rcases List.mem_cons.mp hd with rfl | hd
        · split <;> omega
        · have := hm d hd
          split <;> omega
    refine ⟨m, fun y => ?_⟩
    unfold hasL
    rw [List.any_eq_false]
    intro c hc
    have := hm c hc
    unfold inBx
    simp
    omega
theorem inR_of {bs : List Bx} {f : Form} {o : Bool} (io : IsOf bs f) (x y : Int) : inR f (!o) x y = (hasL bs x y != o) := by
  unfold inR
  rw [io.2]
  cases hasL bs x y <;> cases o <;> rfl
/-- equal regions are those with the same squares -/
theorem same_iff {as bs : List Bx} {f g : Form} {o p : Bool} (a : IsOf as f) (b : IsOf bs g) : sameR f (!o) g (!p) = true ↔ ∀ x y, (hasL as x y != o) = (hasL bs x y != p) := by
  constructor
  · intro h x y
    unfold sameR at h
    rw [Bool.and_eq_true] at h
    have e1 : (!o) = (!p) := eq_of_beq h.1
    have e2 : f = g := of_decide_eq_true h.2
    rw [← inR_of a, ← inR_of b, e1, e2]
  · intro h
    obtain ⟨x, hx⟩ := far_out (as ++ bs)
    have h0 := hx 0
    unfold hasL at h0
    rw [List.any_append, Bool.or_eq_false_iff] at h0
    have h1 := h x 0
    unfold hasL at h1
    rw [h0.1, h0.2] at h1
    have e : o = p := by cases o <;> cases p <;> simp_all
    subst e
    unfold sameR
    rw [Bool.and_eq_true]
    refine ⟨by simp, decide_eq_true (form_sq a.1.ok b.1.ok fun x y => ?_)⟩
    rw [a.2, b.2]
    have := h x y
    revert this
    cases hasL as x y <;> cases hasL bs x y <;> cases o <;> simp
end Vf

set_option Elab.async false
set_option linter.all false
set_option maxRecDepth 100000
/-! bool(x): of an object with its own __bool__, of a tuple. -/
namespace PySem
open Sem (wp)
section
variable {prog : Program} {w : World} {A : Around} {E : Value → Shared → Prop} {s : Shared}
/-- T(..) where what makes the object is walked here -/
theorem callType_at_vf {T newId : String} {Bn : Builtin} {args : List Value} {Q : Value → Shared → Prop} (ft : TypeCalled T newId "object.__init__")
    (hne : (some newId != some "object.__new__") = true) (hct : checkTypeCall T ⟨args, []⟩ = pure ()) (hcn : checkBuiltinCall newId ⟨.type T :: args, []⟩ = pure ())
    (hok : ∀ obj, argsOk "object.__init__" ⟨obj :: args, []⟩) (entryN : entryFor table newId = some Bn)
    (hB : ∀ R : Result → Shared → Prop, (∀ obj s', s'.TypeIs obj T → Q obj s' → R (.ok (.ret obj)) s') → (∀ e s', E e s' → R (.error e) s') →
      wpAny (model prog w) A.in1.in1 (Bn ⟨.type T :: args, []⟩) (fun fin s' => match fin with | .done f => R (.ok f) s' | .again c' => c'.quiet = true ∧ codeAny (model prog w) A.in1 c' R s') (fun e s' => R (.error e) s') s) :
    wpAny (model prog w) A (call (.type T) args) Q E s := by
  obtain ⟨c, tl, hmro⟩ := ft.mro
  have hmade := ft.made
  have hsub := ft.sub
  refine wpAny_call (codeAny_of_tree ?_)
  show wpAny _ _ (callAny (.type T) _) _ _ _
  refine wpAny_pure ⟨Code.quiet_builtin _ (by decide +kernel), codeAny_builtin F.entry_type_call ?_⟩
  rw [Around.under_plain (weight_type_call_type T args []) (units_type_call_type T args [])]
  have h1 := ft.notType
  have h2 := ft.canCreate
  repeat (any_goals (first | assumption | wp_step))
  refine codeAny_mono (codeAny_call_builtin ft.plain entryN (wpAny_of_eq hcn (hB (wants (fun obj s₁ => s₁.TypeIs obj T ∧ Q obj s₁) E) (fun _ _ a b => ⟨a, b⟩) (fun _ _ e => e)))) fun r s₁ hr => ?_
  cases r with
  | error e => exact hr
  | ok fl =>
    cases fl with
    | ret obj =>
      obtain ⟨hT, hq0⟩ := hr
      have hli := ft.init.lookup
      have hbi := ft.init.bind obj
      repeat (any_goals (first | assumption | wp_step))
      refine codeAny_mono (codeAny_call_builtin ft.init.plain F.entry_object_init (ft.init.check _ _ _ _ _ _ _ _ hT (hok obj) (object_init_meets ft.init.lookup ft.made hne prog w A.in1 (wants (fun r s₂ => r = .none ∧ Q obj s₂) E) s₁ ⟨hT, rfl, hq0⟩))) fun r₂ s₂ hr₂ => ?_
      cases r₂ with
      | error e => exact hr₂
      | ok fl₂ =>
        cases fl₂ with
        | ret r =>
          obtain ⟨rfl, hq⟩ := hr₂
          repeat (any_goals (first | assumption | wp_step))
        | _ => exact hr₂.elim
    | _ => exact hr.elim
/-- bool(x), by the truth of x -/
theorem bool_at_vf {x : Value} {Q : Value → Shared → Prop} (h : wpAny (model prog w) A.in1.in1 (truthy x) (fun b s' => Q (.bool b) s') E s) : wpAny (model prog w) A (call (.type "bool") [x]) Q E s := by
  refine callType_at_vf F.called_bool F.newNe_bool (F.typeCall_bool_1 x) (F.newCall_bool_1 x) (fun obj => F.args_object_init_2 obj x) F.entry_bool_new fun R ok er => ?_
  have f1 := F.conv_sub_bool
  unfold Builtin.«bool.__new__»
  repeat (any_goals (first | assumption | (with_reducible refine wpAny_bind (m := truthy x) (wpAny_mono h (fun b s' hb => ?_) fun _ _ e => er _ _ e)) | wp_step))
  all_goals first | exact ok _ _ (typeIs_bool _ _) hb | exact wpAny_pure (ok _ _ (typeIs_bool _ _) hb) | skip
end
end PySem
namespace Vf
open PySem PySem.Spec PyProof.Rows L2 PySem.W
open C8 (pss_cut tCut)
open Fm (Spans Form Slab Keep)
section
variable {X : Cx} {CX : CXT} {n : Nat} {f g C p : Addr} {sp : Sp} {E : XK} {pins : List (Addr × Obj)} {σ : L2.St} {H : Hp} {s : Shared}
/-- the truth of an object by its own __bool__, in any surroundings -/
theorem tru_at {A : Around} {a : Addr} {Q : Bool → Hp → Prop} (c : Own X.K C "__bool__" f) (F : FnR X.prog X.w X.K X.mg X.base CX n f sp) (sb : Sub X n A) (hx : Passes CX X E) (I : Inv X pins σ H s) (ia : Ins H C a) (q : sp [.ref a] H (fun v H' => ∃ k, v = .bl k ∧ Q k H') E) :
    wpAny (model X.prog X.w) A (truthy (.ref a)) (fun b s' => ∃ H', Inv X pins σ H' s' ∧ Q b H') X.xe s := by
  obtain ⟨ox, od, J, _⟩ := ins_at I ia
  have go : wpAny (model X.prog X.w) A (call (.ref f) [.ref a]) (fun v s' => ∃ k H', v = .bool k ∧ Inv X pins σ H' s' ∧ Q k H') X.xe s := by
    refine thn (run_at (us := [.ref a]) (vs := [.ref a]) F sb hx I (.cons rfl .nil) q) ?_
    intro z s' hz
    obtain ⟨zv, H', I', rz, k, rfl, qz⟩ := hz
    exact ⟨k, H', rz, I', qz⟩
  unfold truthy
  have two : wpAny (model X.prog X.w) A (callSpecial? (.ref a) (PySem.Str.ofString "__bool__")) (fun r s' => ∃ k H', r = some (.bool k) ∧ Inv X pins σ H' s' ∧ Q k H') X.xe s :=
    special_fn I.kIn J c.at_ (beq_iff_eq.mp c.fn) (thn go fun z s' ⟨k, H', e, I', q⟩ => ⟨k, H', by rw [e], I', q⟩)
  refine wpAny_bind (m := callSpecial? (.ref a) (PySem.Str.ofString "__bool__")) (thn two ?_)
  intro r s' hz
  obtain ⟨k, H', rfl, I', q⟩ := hz
  exact wpAny_pure ⟨H', I', q⟩
/-- bool(a) by its own __bool__ -/
theorem call_boolO (c : Own X.K C "__bool__" f) (F : FnR X.prog X.w X.K X.mg X.base CX n f sp) (hr : Room (n + 2) X.A) (hx : Passes CX X E) :
    CallR X (.type "bool") (fun xs H Q => ∃ a, xs = [.ref a] ∧ Ins H C a ∧ sp [.ref a] H (fun v H' => ∃ k, v = .bl k ∧ Q (.bl k) H') E) := by
  intro pins s σ H xs us Q I r h
  obtain ⟨a, rfl, ia, q⟩ := h
  obtain ⟨u, rfl, rv⟩ := vals1 r
  obtain rfl : u = Value.ref a := rv
  refine bool_at_vf (thn (tru_at (Q := fun k H' => Q (.bl k) H') c F ⟨hr.in1.in1, rfl⟩ hx I ia q) fun b s' ⟨H', I', q'⟩ => ?_)
  exact ⟨.bl b, H', I', rfl, q'⟩
end
end Vf
namespace Vf
open PySem PySem.Spec PyProof.Rows L2 PySem.W
section
variable {X : Cx}
/-- bool(a tuple) -/
theorem call_boolT : CallR X (.type "bool") (fun xs H Q => ∃ (a : Addr) (zs : List V), xs = [.ref a] ∧ SqT X.K H a zs ∧ Q (.bl (!zs.isEmpty)) H) := by
  intro pins s σ H xs us Q I r h
  obtain ⟨a, zs, rfl, hq, q⟩ := h
  obtain ⟨u, rfl, rv⟩ := vals1 r
  obtain rfl : u = Value.ref a := rv
  obtain ⟨its, rv, pl, hz⟩ := I.tuple hq
  have hl := line63
  have hlen := rv.length
  refine bool_at_vf (truthy_tuple pl (by simp only [List.size_toArray]; omega) ?_)
  refine ⟨.bl (!zs.isEmpty), H, I.tok _, ?_, q⟩
  rw [isEmpty_of rv]
  rfl
end
end Vf

set_option Elab.async false
set_option linter.all false
set_option maxRecDepth 100000
/-! Truth of a region; within. -/
namespace Vf
open PySem PySem.Spec PyProof.Rows L2
open C8 (pss_cut tCut)
open Fm (Spans Form Slab Keep)
theorem scBool : FnScope ["self"] ["self"] (defScope sBool) := ⟨rfl, rfl, rfl, by decide +kernel, rfl, by decide +kernel, by decide +kernel⟩
theorem scWithin : FnScope ["self", "other"] ["self", "other"] (defScope sWithin) := ⟨rfl, rfl, rfl, by decide +kernel, rfl, by decide +kernel, by decide +kernel⟩
/-- whether a region has squares -/
def anyR (f : Form) (b : Bool) : Bool := !f.isEmpty || !b
theorem anyR_iff {f : Form} {b : Bool} (ok : Fm.OkF f) : anyR f b = false ↔ ∀ x y, inR f b x y = false := by
  unfold anyR
  cases f with
  | nil => cases b <;> simp [inR, sqF, Fm.cross, Fm.inS]
  | cons p r =>
    constructor
    · intro h
      simp at h
    · intro h
      exfalso
      have g := ok.good p List.mem_cons_self
      obtain ⟨q, s, e⟩ : ∃ q s, p.2.2 = q :: s := by
        cases z : p.2.2 with
        | nil => exact absurd z g.2.2
        | cons q s => exact ⟨q, s, rfl⟩
      have lt : q.1 < q.2 := by
        have := g.2.1
        rw [e] at this
        exact this.1
      cases b with
      | true =>
        have := h p.1 q.1
        unfold inR sqF at this
        rw [cross_at ok List.mem_cons_self, e, Fm.inS_cons, decide_eq_true (Int.le_refl _), decide_eq_true lt] at this
        simp at this
      | false =>
        have := h (p.1 - 1) 0
        unfold inR sqF at this
        rw [Fm.cross_before fun q hq => ?_] at this
        · simp [Fm.inS] at this
        · rcases List.mem_cons.mp hq with rfl | hq
          · omega
          · have h1 := ok.later q hq
            have h2 := g.1
            omega
def spBool (K : PySem.W.Frag) (C : Addr) : Sp := fun vs H Q _ => ∃ a f b, vs = [.ref a] ∧ Rg K C a H f b ∧ Q (.bl (anyR f b)) H
def spWithin (K : PySem.W.Frag) (C : Addr) : Sp := fun vs H Q _ => ∃ a c f b g e n m, vs = [.ref a, .ref c] ∧ Rg K C a H f b ∧ Rg K C c H g e ∧ Sz n f ∧ Sz m g ∧ n ≤ 400 ∧ m ≤ 400 ∧ ∀ H', Same H H' → Q (.bl (!anyR (combF (kTurn kSub b e) f g) (!kSub (!b) (!e)))) H'
theorem within_iff {n m : Nat} {f g : Form} {b e : Bool} (s1 : Sz n f) (s2 : Sz m g) : (!anyR (combF (kTurn kSub b e) f g) (!kSub (!b) (!e))) = true ↔ ∀ x y, inR f b x y = true → inR g e x y = true := by
  have sz := s1.comb s2 (kTurn0 kSub b e)
  rw [Bool.not_eq_true', anyR_iff sz.ok]
  constructor
  · intro h x y hx
    have := (inR_comb (k := kSub) (b1 := b) (b2 := e) s1 s2 x y).symm.trans (h x y)
    unfold kSub at this
    rw [hx] at this
    simpa using this
  · intro h x y
    rw [inR_comb s1 s2]
    unfold kSub
    cases z : inR f b x y with
    | false => rfl
    | true => rw [h x y z]; rfl
section
variable {P : Program} {w : World} {K : PySem.W.Frag} {mg : Str → Option Value} {base : Heap}
theorem ok_bool {f C : Addr} {fd : FuncData} {n : Nat} (F : Fun K "__bool__" "Region.__bool__" sBool f fd) (T : RTxt K mg C) (mb : mg "bool" = none) : FnOk P w K mg base CX0 (n + 1) f fd ["self"] (spBool K C) := by
  refine F.ok scBool (fun vs H Q E h => ?_) (fun cdv A outer st H vs Q E hr h => ?_)
  · obtain ⟨a, f, b, rfl, _⟩ := h
    rfl
  · obtain ⟨a, f, b, rfl, ⟨dx, v, eA, d⟩, q⟩ := h
    refine ⟨_, (pss_one (ps_ret (pe_or (pe_callTy call_boolT (by rfl) mb (by decide +kernel) (pa_cons (pe_fld (pv 0) rfl) pa_nil)) (pe_one (pe_not (pe_fld (pv 0) rfl)))))), ?_⟩
    obtain ⟨A0, xs, rfl, hs, ha⟩ := dp_tup d
    have len : xs.length = f.length := (dpAll_len ha).trans (List.length_map ..)
    have e : xs.isEmpty = f.isEmpty := by cases xs <;> cases f <;> simp_all
    refine ⟨.ref a, rfl, a, C, dx, _, .ref A0, rfl, eA, T.cl, T.nS, rf_s _ _, A0, xs, rfl, hs, !xs.isEmpty, rfl, ?_⟩
    rw [e]
    unfold anyR at q
    cases z : f.isEmpty with
    | false =>
      rw [z] at q
      exact iteT q
    | true =>
      rw [z] at q
      exact iteF ⟨.ref a, rfl, a, C, dx, _, .bl b, rfl, eA, T.cl, T.nB, rf_b _ _, b, rfl, q⟩
theorem ok_within {f C gB gS : Addr} {fd : FuncData} {n : Nat} (F : Fun K "within" "Region.within" sWithin f fd) (T : RTxt K mg C) (sf : PySem.W.selfFirst K C = true) (mb : mg "bool" = none)
    (OB : Own K C "__bool__" gB) (GB : FnR P w K mg base CX0 n gB (spBool K C)) (OS : Own K C "__sub__" gS) (GS : FnR P w K mg base CX0 n gS (spOp K C kSub)) : FnOk P w K mg base CX0 (n + 3) f fd ["self", "other"] (spWithin K C) := by
  refine F.ok scWithin (fun vs H Q E h => ?_) (fun cdv A outer st H vs Q E hr h => ?_)
  · obtain ⟨a, c, f, b, g, e, n, m, rfl, _⟩ := h
    rfl
  · obtain ⟨a, c, f, b, g, e, n1, m1, rfl, rA, rC, s1, s2, n4, m4, q⟩ := h
    have h0 : Room n (A.deeper (envOfC "Region.within" (defScope sWithin) st.heap.objs.size _ cdv)) := hr.mono (by omega)
    refine ⟨_, (pss_one (ps_ret (pe_not (pe_callTy (call_boolO OB GB hr pass0) (by rfl) mb (by decide +kernel) (pa_cons (pe_op (op_binO (op := .Sub) OS sf GS h0 pass0) (pv 0) (pv 1)) pa_nil))))), ?_⟩
    refine ⟨.ref a, rfl, .ref c, rfl, a, c, rfl, rfl, rA.ins, rC.ins, a, c, rfl, f, b, g, e, n1, m1, rA, rC, s1, s2, n4, m4, fun H1 x S1 rx => ?_⟩
    exact ⟨x, rfl, rx.ins, x, _, _, rfl, rx, _, rfl, _, rfl, q H1 S1⟩
end
end Vf

set_option Elab.async false
set_option linter.all false
set_option maxRecDepth 100000
/-! A region compared with what is no region; repr of an object by its own __repr__; {x!r} of data. -/
namespace Vf
open PySem PySem.Spec PyProof.Rows L2 PySem.W
open Fm (Spans Form Slab Keep)
/-- what is asked of the class beside lists and texts -/
structure REq (K : Frag) (C : Addr) : Prop where
  nl : notFirst K C (.type "list") = true
  ns : notFirst K C (.type "str") = true
  kl : kitOne K (.type "list") (.ref C) = some false
  ks : kitOne K (.type "str") (.ref C) = some false
theorem kit_no {K : Frag} {C : Addr} {t : String} (h1 : isClsIn K C = true) (h2 : typeIn K (.ref C) = some (.type "type")) (h3 : subIn K (.type t) (.ref C) = some false) : kitOne K (.type t) (.ref C) = some false := by
  unfold kitOne
  rw [if_neg (by simp)]
  unfold kitCls
  unfold isClsIn at h1
  dsimp only
  rw [h1, h2]
  exact h3
/-- a list or a text -/
def Oth (K : Frag) (H : Hp) (y : V) (t : Value) : Prop := (t = .type "list" ∧ ∃ b ys, y = .ref b ∧ H b = some (.lst ys)) ∨ (t = .type "str" ∧ ∃ u, y = .str u)
section
variable {X : Cx} {CX : CXT} {n : Nat} {f g C p : Addr} {sp : Sp} {E : XK} {pins : List (Addr × Obj)} {σ : L2.St} {H : Hp} {s : Shared}
theorem oth_looks {y : V} {u t : Value} {M : Model} (I : Inv X pins σ H s) (r : RelV y u) (h : Oth X.K H y t) : Looks M s.heap (typeOf u) t := by
  rcases h with ⟨rfl, b, ys, rfl, hb⟩ | ⟨rfl, z, rfl⟩
  · obtain rfl : u = Value.ref b := r
    obtain ⟨_, its, n, _, e⟩ := I.hok b _ hb
    exact (Looks.ld e).andThen .now
  · obtain ⟨t, rfl⟩ := r
    exact .now
/-- a == y, a of the class at C, y a list or a text -/
def rEqX (K : Frag) (C : Addr) (sp : Sp) (E : XK) : R2 := fun x y H Q => ∃ a t, x = .ref a ∧ Ins H C a ∧ Oth K H y t ∧ sp [.ref a, y] H (fun v H' => ∃ k, v = .bl k ∧ Q (.bl k) H') E
theorem op_eqX (c : Own X.K C "__eq__" f) (q0 : REq X.K C) (F : FnR X.prog X.w X.K X.mg X.base CX n f sp) (hr : Room n X.A) (hx : Passes CX X E) : OpR X (compareOp .Eq) (rEqX X.K C sp E) := by
  intro pins s σ H x y v u Q I rx ry h
  obtain ⟨a, t, rfl, ia, ot, q⟩ := h
  obtain rfl : v = Value.ref a := rx
  obtain ⟨ox, od, J, _⟩ := ins_at I ia
  obtain ⟨m, fr⟩ := I.fr
  have hn : notFirst X.K C t = true := by
    rcases ot with ⟨rfl, _⟩ | ⟨rfl, _⟩
    · exact q0.nl
    · exact q0.ns
  show wpAny _ _ (richCompare .Eq (.ref a) u) _ _ _
  refine cmp_K (op := .Eq) (tb := t) hr.units0 fr I.ok.mod.kin J (oth_looks I ry ot) hn c.at_ c.fn (thn (run_at (us := [.ref a, u]) (vs := [.ref a, y]) F ⟨hr, rfl⟩ hx I (.cons rfl (.cons ry .nil)) q) ?_)
  intro z s' hz
  obtain ⟨zv, H', I', rz, k, rfl, qz⟩ := hz
  obtain rfl : z = .bool k := rz
  exact (⟨.bl k, H', I', rfl, qz⟩ : EP X pins σ Q (.bool k) s')
/-- a call of a def that wants nothing shown around -/
theorem run_atG {A : Around} {fd : FuncData} {ps : List PySem.Str} {Q : VK} {us : List Value} {vs : List V} (F : FnG X.prog X.w X.K X.mg X.base CX n f fd ps sp) (hb : Binds X.K fd ps []) (gd : A.guards = some []) (sb : Sub X n A) (hx : Passes CX X E) (I : Inv X pins σ H s) (r : Vals vs us) (h : sp vs H Q E) :
    wpAny (model X.prog X.w) A (call (.ref f) us) (EP X pins σ Q) X.xe s := by
  have e0 : Env0 X.prog X.w X.K X.mg X.base A X.stack s H := by
    have e := I.env0
    exact ⟨by rw [sb.fr]; exact e.frames, e.mod, e.bs, e.bsz, e.funs, e.frf, e.hok, e.bare⟩
  have many : us.length = ps.length := (r.length).symm.trans (F.many h)
  have hb' := hb s us I.kIn (by rw [List.append_nil]; exact many)
  rw [List.append_nil] at hb'
  refine wpAny_call (codeAny_mono (F.goes gd sb.room e0 hb' r h) fun z s' hq => ?_)
  cases z with
  | error e => exact hx pins σ H s e s' I hq
  | ok fl =>
    cases fl with
    | ret u => exact I.after hq
    | next => exact False.elim hq
    | brk => exact False.elim hq
    | cont => exact False.elim hq
/-- repr(a) by its own __repr__ -/
theorem call_repr_own {fd : FuncData} {ps : List PySem.Str} (c : Own X.K C "__repr__" f) (F : FnG X.prog X.w X.K X.mg X.base CX n f fd ps sp) (hb : Binds X.K fd ps []) (gd : X.A.guards = some []) (hr : Room (n + 1) X.A) (hx : Passes CX X E) :
    CallR X (.builtin "repr") (fun xs H Q => ∃ a, xs = [.ref a] ∧ Ins H C a ∧ sp [.ref a] H (fun v H' => ∃ t, v = .str t ∧ Q (.str t) H') E) := by
  intro pins s σ H xs us Q I r h
  obtain ⟨a, rfl, ia, q⟩ := h
  obtain ⟨u, rfl, rv⟩ := vals1 r
  obtain rfl : u = Value.ref a := rv
  obtain ⟨ox, od, J, _⟩ := ins_at I ia
  refine Calls.call_function_entry PySem.F.kind_repr PySem.F.plain_repr PySem.F.entry_repr (PySem.F.args_repr1 _) ?_
  unfold Builtin.«repr»
  refine wpAny_bind (m := oneArg "repr" _) (wpAny_pure ?_)
  refine wpAny_bind (m := cRoomFor _ _) (wpAny_cRoomFor hr.in1.units0 ?_)
  refine wpAny_bind (m := specialOf _ _) (wpAny_bind (J.type.here ((looks_findIn I.kIn c.at_).here ?_)))
  refine wpAny_bind (m := callSpecialIfBound? (.ref a) (PySem.Str.ofString "__repr__")) (ifBound_K I.kIn J c.at_ c.fn (thn (run_atG (us := [.ref a]) (vs := [.ref a]) F hb gd ⟨hr.in1, rfl⟩ hx I (.cons rfl .nil) q) ?_))
  intro z s' hz
  obtain ⟨zv, H', I', rz, t, rfl, qz⟩ := hz
  obtain ⟨tk, rfl⟩ := rz
  refine wpAny_bind (wpAny_isInstance (T := "str") (b := true) rfl isSubtype_str_str ?_)
  exact wpAny_pure ⟨_, rfl, .str t, H', I', ⟨_, rfl⟩, qz⟩
/-- the own == with a list or a text -/
def spEqX (K : Frag) (C : Addr) : Sp := fun vs H Q _ => ∃ a y t, vs = [.ref a, y] ∧ Oth K H y t ∧ Q (.bl false) H
/-- {x!r}: data -/
def tFmtD (K : Frag) (te : TE) : TE := fun σ H Q => te σ H fun x H1 => ∃ d a, x = .ref a ∧ Dp K H1 x d ∧ d.showable = true ∧ d.hasDict = false ∧ d.depth ≤ 60 ∧ d.shown.length ≤ sizeLine ∧ Q (.str d.shown) H1
theorem pe_fmtD {e : Expr} {te : TE} {pos : Pos} (gd : X.A.guards = some []) (hu : X.A.units + 64 < cLine) (he : PE X e te) : PE X (.FormattedValue e 114 none pos) (tFmtD X.K te) := by
  refine ⟨fun pins s σ H Q I h => ?_⟩
  refine wpAny_FormattedValue_repr (thn (he.run pins s σ H _ I h) fun v s1 hv => ?_)
  obtain ⟨x, H1, I1, r1, d, a, rfl, hd, hs, hn, hdep, hz, q⟩ := hv
  obtain rfl : v = Value.ref a := r1
  obtain ⟨as, rd⟩ := Dp.reads I1 d (.ref a) (.ref a) hd rfl
  have nd : d.hasDict = true → sysModules ∉ as := fun z => by
    rw [hn] at z
    cases z
  exact pyReprObj_of_reads rd hs nd gd (by omega) (fun _ _ e => e) (fun h' u tk hk => wpAny_formatField_str ⟨.str _, H1, I1.kept hk, ⟨_, rfl⟩, q⟩ ⟨.str _, H1, (I1.kept hk).tok _, ⟨_, rfl⟩, q⟩ hz) hz
end
section
variable {P : Program} {w : World} {K : PySem.W.Frag} {mg : Str → Option Value} {base : Heap}
theorem ok_eqX {f C : Addr} {fd : FuncData} {n : Nat} (F : Fun K "__eq__" "Region.__eq__" sEq f fd) (T : RTxt K mg C) (q0 : REq K C) (mi : mg "isinstance" = none) : FnOk P w K mg base CX0 (n + 1) f fd ["self", "other"] (spEqX K C) := by
  refine F.ok scEq (fun vs H Q E h => ?_) (fun cdv A outer st H vs Q E hr h => ?_)
  · obtain ⟨a, y, t, rfl, _⟩ := h
    rfl
  · obtain ⟨a, y, t, rfl, ot, q⟩ := h
    refine ⟨_, (pss_one (ps_ret (pe_and (pe_callB call_isi (by rfl) mi (by decide +kernel) (pa_cons (pv 1) (pa_cons (pe_glob (v := .ref C) (by rfl) T.mgC rfl) pa_nil))) (pe_and (pe_cmpR op_eq (pe_fld (pv 0) rfl) (pe_fld (pv 1) rfl) (nomark _)) (pe_one (pe_cmpR (op_eqD hr.units) (pe_fld (pv 0) rfl) (pe_fld (pv 1) rfl) (nomark _))))))), ?_⟩
    rcases ot with ⟨rfl, b, ys, rfl, hb⟩ | ⟨rfl, z, rfl⟩
    · exact ⟨.ref b, rfl, .ref b, .ref C, _, _, false, rfl, .own C, .base (.lst hb), q0.kl, false, rfl, iteF q⟩
    · exact ⟨.str z, rfl, .str z, .ref C, _, _, false, rfl, .own C, .base (.str z), q0.ks, false, rfl, iteF q⟩
end
end Vf

set_option Elab.async false
set_option linter.all false
set_option maxRecDepth 100000
/-! The list that slabs gives, as data. -/
namespace Vf
open PySem PySem.Spec PyProof.Rows L2
open Fm (Spans Form Slab Keep)
/-- the list that slabs gives, as data -/
def encO (p : Slab) : PyData := .tuple [.int p.1, .int p.2.1, .list (p.2.2.map encP)]
theorem SlA.dp {K : PySem.W.Frag} {H0 H : Hp} {D : Addr} (S : Same H0 H) : ∀ {vs : List V} {f : Form}, SlA K H0 H D vs f → DpAll K H vs (f.map encO)
  | _, _, .nil => .nil
  | _, _, .cons ⟨t, l, us, e, _, _, _, h4, h5, h6⟩ r => by
    subst e
    exact .cons (.tup (.inl (.inl h4)) (.cons (.int _) (.cons (.int _) (.cons (.lst (.inl (.inl h5)) (dpAll_same S h6)) .nil)))) (SlA.dp S r)
theorem canLay_out (f : Form) : PyData.canLayAll0 (f.map encO) = true := by
  induction f with
  | nil => rfl
  | cons p f ih => simp only [List.map_cons, PyData.canLayAll0, encO, PyData.canLay0, canLay_pairs, Bool.true_and, Bool.and_self, ih]
theorem shaped_out (f : Form) : SeqAt.shaped (.list (f.map encO)) = true := by
  unfold SeqAt.shaped
  have h1 : PyData.canLay0 (.list (f.map encO)) = true := by
    simp only [PyData.canLay0]
    exact canLay_out f
  have pairs : ∀ s : Spans, PyData.depthAll (s.map encP) ≤ 1 := fun s => depthAll_mem.mpr fun d hd => by
    obtain ⟨p, _, rfl⟩ := List.mem_map.mp hd
    simp [encP, PyData.depth, PyData.depthAll]
  have h2 : PyData.depth (.list (f.map encO)) ≤ 4 := by
    simp only [PyData.depth]
    have : PyData.depthAll (f.map encO) ≤ 3 := depthAll_mem.mpr fun d hd => by
      obtain ⟨p, _, rfl⟩ := List.mem_map.mp hd
      have := pairs p.2.2
      simp only [encO, PyData.depth, PyData.depthAll]
      omega
    omega
  rw [h1, decide_eq_true (by omega)]
  rfl
theorem eqv_out : ∀ f : Form, PyData.eqvAll (f.map encO) (f.map encO) = true
  | [] => rfl
  | p :: f => by
    have h := eqvAll_spans p.2.2 p.2.2
    simp only [List.map_cons, PyData.eqvAll, encO, PyData.eqv, eqv_out f, h]
    simp
theorem eqv_out' (f : Form) : PyData.eqv (.list (f.map encO)) (.list (f.map encO)) = true := by
  simp only [PyData.eqv]
  exact eqv_out f
end Vf

set_option Elab.async false
set_option linter.all false
set_option maxRecDepth 100000
set_option exponentiation.threshold 3000
/-! repr of a region. -/
namespace Vf
open PySem PySem.Spec PyProof.Rows L2
open C8 (pss_cut tCut)
open Fm (Spans Form Slab Keep)
/-- numbers that can be written -/
def Sm (n : Int) : Prop := n.natAbs < 2 ^ 1900
theorem sm_log {n : Int} (h : Sm n) : n.natAbs.log2 < 1920 := by
  by_cases z : n.natAbs = 0
  · rw [z]
    decide
  · exact (Nat.log2_lt z).mpr (Nat.lt_trans h (Nat.pow_lt_pow_right (by decide) (by decide)))
def outF (f : Form) : PyData := .list (f.map encO)
theorem nice_spans {s : Spans} (h : InSp Sm s) : niceAll (s.map encP) = true := niceAll_mem.mpr fun d hd => by
  obtain ⟨q, hq, rfl⟩ := List.mem_map.mp hd
  have := h q hq
  simp only [encP, nice, niceAll, decide_eq_true (sm_log this.1), decide_eq_true (sm_log this.2), Bool.and_self]
theorem nice_out {f : Form} (h : InC Sm Sm f) : nice (outF f) = true := by
  unfold outF
  simp only [nice]
  refine niceAll_mem.mpr fun d hd => ?_
  obtain ⟨p, hp, rfl⟩ := List.mem_map.mp hd
  have := h p hp
  simp only [encO, nice, niceAll, decide_eq_true (sm_log this.1), decide_eq_true (sm_log this.2.1), nice_spans this.2.2, Bool.and_self]
theorem wide_spans : ∀ s : Spans, wideAll (s.map encP) = 3851 * s.length
  | [] => rfl
  | q :: s => by
    simp only [List.map_cons, wideAll, encP, wide, wide_spans s, List.length_cons]
    omega
theorem wide_out (m : Nat) : ∀ f : Form, (∀ p ∈ f, p.2.2.length ≤ m) → wideAll (f.map encO) ≤ (3851 * m + 3860) * f.length
  | [], _ => Nat.zero_le _
  | p :: f, h => by
    have h1 := wide_out m f fun q hq => h q (List.mem_cons_of_mem _ hq)
    have h2 := h p List.mem_cons_self
    simp only [List.map_cons, wideAll, encO, wide, wide_spans, List.length_cons, Nat.mul_add, Nat.mul_one]
    have : 3851 * p.2.2.length ≤ 3851 * m := Nat.mul_le_mul_left _ h2
    omega
/-- what can be shown: coordinates that can be written, of at most ten boxes -/
structure Fits (f : Form) : Prop where
  sm : InC Sm Sm f
  sz : ∃ n, Sz n f ∧ n ≤ 10
theorem Fits.wide {f : Form} (h : Fits f) : Vf.wide (outF f) ≤ 1000000 := by
  obtain ⟨n, s, hn⟩ := h.sz
  have few : f.length ≤ 2 * n := s.few.1
  have ys : ∀ p ∈ f, p.2.2.length ≤ n := fun p hp => by
    have := s.ys p.1
    rw [cross_at s.ok hp] at this
    exact this
  have := wide_out n f ys
  unfold outF
  simp only [Vf.wide]
  have e : (3851 * n + 3860) * f.length ≤ (3851 * 10 + 3860) * 20 := Nat.mul_le_mul (by omega) (by omega)
  omega
theorem depth_out (f : Form) : (outF f).depth ≤ 4 := by
  have pairs : ∀ s : Spans, PyData.depthAll (s.map encP) ≤ 1 := fun s => depthAll_mem.mpr fun d hd => by
    obtain ⟨p, _, rfl⟩ := List.mem_map.mp hd
    simp [encP, PyData.depth, PyData.depthAll]
  unfold outF
  simp only [PyData.depth]
  have : PyData.depthAll (f.map encO) ≤ 3 := depthAll_mem.mpr fun d hd => by
    obtain ⟨p, _, rfl⟩ := List.mem_map.mp hd
    have := pairs p.2.2
    simp only [encO, PyData.depth, PyData.depthAll]
    omega
  omega
/-- what is shown of a region -/
def txtR (f : Form) (b : Bool) : Str := ((Str.empty ++ (if b then ("Region(" : Str) else ("~Region(" : Str))) ++ (outF f).shown) ++ (")" : Str)
theorem scRepr : FnScope ["self"] ["self"] (defScope sRepr) := ⟨rfl, rfl, rfl, by decide +kernel, rfl, by decide +kernel, by decide +kernel⟩
def spRepr (K : PySem.W.Frag) (C : Addr) : Sp := fun vs H Q _ => ∃ a f b, vs = [.ref a] ∧ Rg K C a H f b ∧ Fits f ∧ ∀ H', Same H H' → Q (.str (txtR f b)) H'
section
variable {P : Program} {w : World} {K : PySem.W.Frag} {mg : Str → Option Value} {base : Heap}
theorem ok_repr {fR C pS gS : Addr} {fd dS : FuncData} {n : Nat} (F : Fun K "__repr__" "Region.__repr__" sRepr fR fd) (T : RTxt K mg C)
    (PS : PropOf K C "slabs" pS gS) (GS : FnOk P w K mg base CX0 n gS dS ["self"] (spSlabs K C)) (bS : Binds K dS ["self"] []) : FnG P w K mg base CX0 (n + 2) fR fd ["self"] (spRepr K C) := by
  have nd := scRepr.nd
  refine okG F scRepr (fun {vs H Q E} h => ?_) (fun cdv A outer st H vs Q E gA hr h => ?_)
  · obtain ⟨a, f, b, rfl, _⟩ := h
    rfl
  · obtain ⟨a, f, b, rfl, r, fit, q⟩ := h
    have gd : (A.deeper (envOfC "Region.__repr__" (defScope sRepr) st.heap.objs.size fR cdv)).guards = some [] := gA
    refine ⟨_, (pss_cons (ps_if (pt_val (pe_fld (pv 0) rfl))
  (pss_one (ps_ret (pe_joined (PJ.cons pe_str (PJ.cons (pe_fmtD gd hr.units (pe_prop (pv 0) T.cl PS GS hr bS .nil pass0 rfl)) (PJ.cons pe_str .nil))))))
  pss_nil)
  (pss_one (ps_ret (pe_joined (PJ.cons pe_str (PJ.cons (pe_fmtD gd hr.units (pe_prop (pv 0) T.cl PS GS hr bS .nil pass0 rfl)) (PJ.cons pe_str .nil))))))), ?_⟩
    obtain ⟨dx, v, eA, d⟩ := id r
    obtain ⟨n0, s0, hn0⟩ := fit.sz
    have fl : f.length ≤ 1000 := by
      have := s0.few.1
      omega
    have nc := nice_out fit.sm
    have ns := nice_show _ nc
    have sl : (outF f).shown.length ≤ 1000000 := Nat.le_trans (shown_wide _ nc) fit.wide
    have big : 2000000 ≤ sizeLine := by decide
    have dp := depth_out f
    refine ⟨.ref a, rfl, a, C, dx, _, .bl b, rfl, eA, T.cl, T.nB, rf_b _ _, b, rfl, ?_⟩
    have z1 : (Str.empty ++ ("Region(" : Str)).length ≤ 100 := by decide
    have z2 : (Str.empty ++ ("~Region(" : Str)).length ≤ 100 := by decide
    have z3 : ((")" : Str)).length ≤ 100 := by decide
    cases b with
    | true =>
      refine iteT ⟨_, rfl, by omega, .ref a, rfl, a, dx, _, rfl, eA, a, f, true, rfl, r, fl, fun H' D ws S nD hD sl' => ?_⟩
      refine ⟨outF f, D, rfl, .lst (.inl (.inl hD)) (sl'.dp S), ns.1, ns.2.1, by omega, by omega, _, rfl, by rw [Str.length_append]; omega, _, rfl, by rw [Str.length_append, Str.length_append]; omega, q H' S⟩
    | false =>
      refine iteF ⟨_, rfl, by omega, .ref a, rfl, a, dx, _, rfl, eA, a, f, false, rfl, r, fl, fun H' D ws S nD hD sl' => ?_⟩
      refine ⟨outF f, D, rfl, .lst (.inl (.inl hD)) (sl'.dp S), ns.1, ns.2.1, by omega, by omega, _, rfl, by rw [Str.length_append]; omega, _, rfl, by rw [Str.length_append, Str.length_append]; omega, q H' S⟩
end
end Vf

set_option Elab.async false
set_option linter.all false
set_option maxRecDepth 100000
/-! repr of a list of regions. -/
namespace Vf
open PySem PySem.Spec PyProof.Rows L2 PySem.W
open C8 (pss_cut tCut)
open Fm (Spans Form Slab Keep)
/-- nothing is being shown around, but perhaps the object D -/
def Gs (D : Option Addr) (A : Around) : Prop := ∃ g, A.guards = some g ∧ ∀ b, (∀ d, D = some d → d ≠ b) → Clear g b
theorem gs_none {A : Around} (h : A.guards = some []) : Gs none A := ⟨[], h, fun b _ => Clear.nil b⟩
/-- a list in which an object of the class at C stands -/
def NoDat (H : Hp) (C d : Addr) : Prop := ∃ vs a, H d = some (.lst vs) ∧ V.ref a ∈ vs ∧ Ins H C a
theorem NoDat.same {H H' : Hp} {C d : Addr} (S : Same H H') (h : NoDat H C d) : NoDat H' C d := by
  obtain ⟨vs, a, e, m, i⟩ := h
  exact ⟨vs, a, S _ _ e, m, i.same S⟩
theorem readsAll_mem {h : Heap} : ∀ {vs : List Value} {ds : List PyData} {as : List Addr}, ReadsAll h vs ds as → ∀ v ∈ vs, ∃ d bs, Reads h v d bs
  | _, _, _, .nil, _, hv => nomatch hv
  | _, _, _, .cons r t, v, hv => by
    rcases List.mem_cons.mp hv with rfl | hv
    · exact ⟨_, _, r⟩
    · exact readsAll_mem t v hv
section
variable {X : Cx} {pins : List (Addr × Obj)} {σ : L2.St} {H : Hp} {s : Shared} {C d : Addr}
theorem vals_mem : ∀ {xs : List V} {us : List Value} {a : Addr}, Vals xs us → V.ref a ∈ xs → Value.ref a ∈ us
  | _, _, _, .nil, h => nomatch h
  | _, _, a, .cons r t, h => by
    rcases List.mem_cons.mp h with e | h
    · subst e
      obtain rfl : _ = Value.ref a := r
      exact List.mem_cons_self
    · exact List.mem_cons_of_mem _ (vals_mem t h)
theorem nodat_reads (I : Inv X pins σ H s) (h : NoDat H C d) (dd : PyData) (as : List Addr) : ¬ Reads s.heap (.ref d) dd as := by
  obtain ⟨vs, a, e, m, ia⟩ := h
  obtain ⟨_, its, n, r, eo⟩ := I.hok d _ e
  obtain ⟨ox, od, J, _⟩ := ins_at I ia
  have key : ∀ dd bs, ¬ Reads s.heap (.ref a) dd bs := fun dd bs q => by
    have jc := J.cls
    cases q with
    | list h1 h2 _ _ => rw [J.at_] at h1; cases h1; rw [jc] at h2; cases h2
    | tuple h1 h2 _ _ => rw [J.at_] at h1; cases h1; rw [jc] at h2; cases h2
    | dict h1 h2 _ _ _ => rw [J.at_] at h1; cases h1; rw [jc] at h2; cases h2
  intro q
  cases q with
  | list h1 h2 h3 h4 =>
    rw [eo] at h1
    cases h1
    cases h3
    obtain ⟨d', bs, q'⟩ := readsAll_mem h4 (.ref a) (by simpa using vals_mem r m)
    exact key _ _ q'
  | tuple h1 h2 _ _ => rw [eo] at h1; cases h1; exact absurd h2 (by simp)
  | dict h1 h2 _ _ _ => rw [eo] at h1; cases h1; exact absurd h2 (by simp)
/-- repr of a list of data, where perhaps D is being shown -/
theorem reprObj_g {A : Around} {E : Value → Shared → Prop} {Q : Value → Shared → Prop} {D : Option Addr} {a : Addr} {xs : List PyData} {as : List Addr} (I : Inv X pins σ H s) (gs : Gs D A) (nd : ∀ d, D = some d → NoDat H C d)
    (r : Reads s.heap (.ref a) (.list xs) as) (hs : (PyData.list xs).showable = true) (hn : (PyData.list xs).hasDict = false) (hu : A.units + (PyData.list xs).depth < cLine) (hsz : (PyData.list xs).shown.length ≤ sizeLine)
    (hQ : ∀ h' u tk, (∀ b o, s.heap.get? b = some o → h'.get? b = some o) → Q (.str (PyData.list xs).shown u) { s with heap := h', toks := tk }) : wpAny (model X.prog X.w) A (pyReprObj (.ref a)) Q E s := by
  obtain ⟨g, hg, hc⟩ := gs
  have far : ∀ b dd bs, Reads s.heap (.ref b) dd bs → Clear g b := fun b dd bs q => hc b fun d e z => by
    subst z
    exact nodat_reads I (nd _ e) dd bs q
  have r0 := r
  cases r with
  | list h1 h2 h3 h4 =>
    rename_i o vs n as₀
    have hz' : (listText (PyData.shownAll xs)).length ≤ sizeLine := by simpa only [PyData.shown] using hsz
    obtain ⟨bs, hb, hk⟩ := ReprAllK.of_readsAll (prog := X.prog) (w := X.w) h4 (by simpa [PyData.showable] using hs) (fun hx => by simp only [PyData.hasDict] at hn; rw [hn] at hx; cases hx) (fun t ht => Nat.le_trans (listText_mem_le ht) hz')
    have hna : a ∉ bs := not_mem_of_deeper r0 (by simp only [PyData.depth]; omega) hb
    simp only [PyData.depth] at hu
    simp only [PyData.shown] at hQ
    obtain ⟨l⟩ := vs
    cases l with
    | nil =>
      have h4' : ReadsAll s.heap [] xs _ := h4
      cases h4'
      simp only [PyData.shownAll, listText_nil] at hQ
      exact wpAny_pyReprObj_slot (by omega) (show s.TypeIs (.ref a) "list" from ⟨o, h1, h2⟩) PySem.F.slot_list_repr.toG (call_list_repr_empty ⟨o, h1, h2⟩ h1 h3 ⟨_, _, rfl, hQ s.heap _ _ fun _ _ e => e⟩)
    | cons x l =>
      refine wpAny_pyReprObj_listK h1 h2 h3 hna (by simpa using hk.length_eq) (fun i y e => hk.item i y (by simpa using e)) hg (fun b hb' => ?_) hu (fun _ _ e => e) hQ hz'
      rcases List.mem_cons.mp hb' with rfl | hb'
      · exact far _ _ _ r0
      · obtain ⟨dd, as', q, _⟩ := hb b hb'
        exact far _ _ _ q
/-- {x!r}: a list of data, where perhaps D is being shown -/
def tFmtG (K : Frag) (C : Addr) (D : Option Addr) (te : TE) : TE := fun σ H Q => te σ H fun x H1 => ∃ ds a, x = .ref a ∧ Dp K H1 x (.list ds) ∧ (∀ d, D = some d → NoDat H1 C d) ∧ (PyData.list ds).showable = true ∧ (PyData.list ds).hasDict = false ∧ (PyData.list ds).depth ≤ 60 ∧ (PyData.list ds).shown.length ≤ sizeLine ∧ Q (.str (PyData.list ds).shown) H1
theorem pe_fmtG {e : Expr} {te : TE} {pos : Pos} {D : Option Addr} (gs : Gs D X.A) (hu : X.A.units + 64 < cLine) (he : PE X e te) : PE X (.FormattedValue e 114 none pos) (tFmtG X.K C D te) := by
  refine ⟨fun pins s σ H Q I h => ?_⟩
  refine wpAny_FormattedValue_repr (thn (he.run pins s σ H _ I h) fun v s1 hv => ?_)
  obtain ⟨x, H1, I1, r1, ds, a, rfl, hd, nd, hs, hn, hdep, hz, q⟩ := hv
  obtain rfl : v = Value.ref a := r1
  obtain ⟨as, rd⟩ := Dp.reads I1 _ (.ref a) (.ref a) hd rfl
  exact reprObj_g (C := C) I1 gs nd rd hs hn (by omega) hz (fun h' u tk hk => wpAny_formatField_str ⟨.str _, H1, I1.kept hk, ⟨_, rfl⟩, q⟩ ⟨.str _, H1, (I1.kept hk).tok _, ⟨_, rfl⟩, q⟩ hz)
end
/-- a def's promise, asked where nothing is being shown around the call but perhaps D -/
structure FnD (D : Option Addr) (P : Program) (w : World) (K : PySem.W.Frag) (mg : PySem.Str → Option Value) (base : Heap) (CX : CXT) (k : Nat) (f : Addr) (fd : FuncData) (ps : List PySem.Str) (sp : Sp) : Prop where
  many : ∀ {vs H Q E}, sp vs H Q E → vs.length = ps.length
  goes : ∀ {A : Around} {outer : List Env} {s : Shared} {H : Hp} {args : Args} {us : List Value} {vs : List V} {Q : VK} {E : XK},
    Gs D A → Room k A → Env0 P w K mg base A outer s H → BindsTo s fd args (ps.zip us) → Vals vs us → sp vs H Q E →
    codeAny (model P w) A (.call (.ref f) args) (CR CX outer P w H s Q E) s
section
variable {P : Program} {w : World} {K : PySem.W.Frag} {mg : PySem.Str → Option Value} {base : Heap} {CX : CXT} {k : Nat} {f : Addr} {fd : FuncData} {ps : List PySem.Str} {sp : Sp} {D : Option Addr}
theorem okD {x qual : PySem.Str} {st : Stmt} {N : List PySem.Str} (F : Fun K x qual st f fd) (S : FnScope N ps (defScope st)) (many : ∀ {vs H Q E}, sp vs H Q E → vs.length = ps.length)
    (walk : ∀ (cdv : Value) (A : Around) (outer : List Env) (s : Shared) (H : Hp) (vs : List V) (Q : VK) (E : XK), Gs D A →
      Room k (A.deeper (envOfC qual (defScope st) s.heap.objs.size f cdv)) → sp vs H Q E →
      ∃ t, PSs (cxOf CX0 P w K mg base N qual (defScope st) f cdv A outer s H E).nox (defBody st) t ∧ t { nx := fun _ H' => Q .non H', rt := Q } (start N vs) H) :
    FnD D P w K mg base CX0 (k + 1) f fd ps sp := by
  obtain ⟨clo, odi, kwd, dcs, pmt, ann, cdv, ctx, slo, rfl, look, code⟩ := F.ex
  refine ⟨many, @fun A outer s H args us vs Q E hg hr e0 hb rv hsp => ?_⟩
  have hlen := many hsp
  have KX : K.In s.heap := e0.mod.kin.keeps (fun b o e => (e0.bs b o e).1)
  have nolim : s.heap.NoLimit := e0.mod.nolimit.keeps (fun b o e => (e0.bs b o e).1)
  have kinds : ∀ y ∈ ps.zip us, (defScope st).names.lookup y.1 = some .local ∨
      ((defScope st).names.lookup y.1 = some .cell ∧ ((cellsFrom (s.heap.objs.size + 1) (defScope st).names []).lookup y.1).isSome = true) := by
    rintro ⟨nm, va⟩ hy
    cases S.par nm (List.of_mem_zip hy).1 with
    | inl q => exact Or.inl q
    | inr q => exact Or.inr ⟨q, PySem.W.cellsFrom_some _ _ _ (Or.inl q)⟩
  refine codeAny_call_function hr.depth (KX _ _ look) rfl S.co S.gen rfl (PySem.W.codeRec_of KX code) (hb _ _ _ _ ?_)
  refine wpAny_newFunctionEnv_cells S.kind kinds (fun env henv s1 inc => ?_)
  subst henv
  refine ⟨nolim.keeps inc.toInCall.keep, codeAny_func ?_⟩
  obtain ⟨t, ht, hq⟩ := walk cdv A outer s H vs Q E hg (hr.deeper _) hsp
  have I0 := inv_start (CX := CX0) (P := P) (w := w) (K := K) (mg := mg) (base := base) (qual := qual) (f := f) (cd := cdv) (E := E) S hr.hd e0 hlen rv inc
  refine wpAny_mono (ht.nox.run [] s1 (start N vs) H _ I0 hq) (fun fl s' hs => ?_) (fun e s' hs => hs)
  cases fl with
  | ret u =>
    obtain ⟨v, σ', H', J, r1, q⟩ := hs
    exact ⟨v, H', J.os, J.bare, J.base, J.hok, r1, q⟩
  | next =>
    obtain ⟨σ', H', J, q⟩ := hs
    exact ⟨V.non, H', J.os, J.bare, J.base, J.hok, (rfl : Value.none = Value.none), q⟩
  | brk =>
    obtain ⟨_, _, _, q⟩ := hs
    exact q.elim
  | cont =>
    obtain ⟨_, _, _, q⟩ := hs
    exact q.elim
end
section
variable {X : Cx} {CX : CXT} {n : Nat} {f C : Addr} {sp : Sp} {E : XK} {pins : List (Addr × Obj)} {σ : L2.St} {H : Hp} {s : Shared} {D : Option Addr}
theorem run_atD {A : Around} {fd : FuncData} {ps : List PySem.Str} {Q : VK} {us : List Value} {vs : List V} (F : FnD D X.prog X.w X.K X.mg X.base CX n f fd ps sp) (hb : Binds X.K fd ps []) (gs : Gs D A) (sb : Sub X n A) (hx : Passes CX X E) (I : Inv X pins σ H s) (r : Vals vs us) (h : sp vs H Q E) :
    wpAny (model X.prog X.w) A (call (.ref f) us) (EP X pins σ Q) X.xe s := by
  have e0 : Env0 X.prog X.w X.K X.mg X.base A X.stack s H := by
    have e := I.env0
    exact ⟨by rw [sb.fr]; exact e.frames, e.mod, e.bs, e.bsz, e.funs, e.frf, e.hok, e.bare⟩
  have many : us.length = ps.length := (r.length).symm.trans (F.many h)
  have hb' := hb s us I.kIn (by rw [List.append_nil]; exact many)
  rw [List.append_nil] at hb'
  refine wpAny_call (codeAny_mono (F.goes gs sb.room e0 hb' r h) fun z s' hq => ?_)
  cases z with
  | error e => exact hx pins σ H s e s' I hq
  | ok fl =>
    cases fl with
    | ret u => exact I.after hq
    | next => exact False.elim hq
    | brk => exact False.elim hq
    | cont => exact False.elim hq
theorem ifBoundBy_K {M : Model} {A : Around} {E : Value → Shared → Prop} {s : Shared} {K : Frag} {x C f : Addr} {ox : Obj} {od : Option Obj} {name : PySem.Str} {last : Value → List Value → Sem Value} {Q : Option Value → Shared → Prop} (X : K.In s.heap) (I : InstAt s.heap x ox C od) (hs : findIn K (.ref C) name = some (some (.ref f))) (hf : isFn K (.ref f) = true)
    (h : wpAny M A (last (.ref f) [.ref x]) (fun v => Q (some v)) E s) : wpAny M A (callSpecialIfBoundBy? last (.ref x) name) Q E s := by
  simp only [callSpecialIfBoundBy?, bindSpecialIfBound?]
  refine wpAny_holding (wpAny_bind (wpAny_bind (wpAny_bind (I.type.here ((looks_findIn X hs).here ?_)))))
  refine wpAny_bind (wpAny_askSetting (wpAny_ite ?_))
  have fin : wpAny M A (last (.ref f) [.ref x] >>= fun v => pure (some v)) Q E s := wpAny_bind (wpAny_mono h (fun v s' h' => wpAny_pure h') fun _ _ h' => h')
  split
  · exact wpAny_bind ((bind_fn X _ (beq_iff_eq.mp hf)).here (wpAny_pure (by exact fin)))
  · exact wpAny_tryCatch (wpAny_bind ((bind_fn X _ (beq_iff_eq.mp hf)).here (wpAny_pure (by exact fin))))
/-- an item of a list that is shown, by its own __repr__ -/
theorem reprUnder_own {A : Around} {fd : FuncData} {ps : List PySem.Str} {a : Addr} {base : Nat} {Q : PySem.Str → Shared → Prop} (c : Own X.K C "__repr__" f) (F : FnD D X.prog X.w X.K X.mg X.base CX n f fd ps sp) (hb : Binds X.K fd ps []) (gs : Gs D A) (sb : Sub X n A) (hx : Passes CX X E) (I : Inv X pins σ H s) (ia : Ins H C a) (hz : base ≤ sizeLine)
    (q : sp [.ref a] H (fun v H' => ∃ t, v = .str t ∧ ∀ s', Inv X pins σ H' s' → Q t s') E) : wpAny (model X.prog X.w) A (pyReprUnder base (.ref a)) Q X.xe s := by
  obtain ⟨ox, od, J, _⟩ := ins_at I ia
  refine wpAny_pyReprUnder_ref hz ?_
  unfold pyReprObjUnder pyReprObjBy
  refine wpAny_bind (m := cRoomFor _ _) (wpAny_cRoomFor sb.room.units0 ?_)
  refine wpAny_bind (m := specialOf _ _) (wpAny_bind (J.type.here ((looks_findIn I.kIn c.at_).here ?_)))
  have go : wpAny (model X.prog X.w) A (call (.ref f) ([.ref a] ++ [])) (fun v s' => ∃ x u, v = .str x u ∧ Q x s') X.xe s := by
    refine thn (run_atD (us := [.ref a]) (vs := [.ref a]) F hb gs sb hx I (.cons rfl .nil) q) ?_
    intro z s' hz
    obtain ⟨zv, H', I', rz, t, rfl, qz⟩ := hz
    obtain ⟨tk, rfl⟩ := rz
    exact ⟨t, tk, rfl, qz s' I'⟩
  refine wpAny_bind (m := callSpecialIfBoundBy? _ (.ref a) (PySem.Str.ofString "__repr__")) (ifBoundBy_K I.kIn J c.at_ c.fn (wpAny_mono (show wpAny _ _ (call (.ref f) ([.ref a] ++ [])) _ _ _ from go) (fun z s' hz => ?_) fun _ _ e => e))
  obtain ⟨x, u, rfl, hq⟩ := hz
  refine wpAny_bind (wpAny_isInstance (T := "str") (b := true) rfl isSubtype_str_str ?_)
  exact wpAny_pure ⟨x, u, rfl, hq⟩
/-! ### the walk over the items -/
theorem loop_depth {A : Around} {args : Args} : (A.under (.builtin "list.__repr__.loop" args)).depth ≤ A.depth + 1 := by
  have e : (Code.builtin "list.__repr__.loop" args).weight ≤ 1 := by
    first
      | decide
      | (simp only [Code.weight]; split <;> omega)
      | (show Code.weight _ ≤ 1; simp [Code.weight, Code.isCreation, Code.isGuard, Code.isCaller, Code.frames, Code.isFrame, guardIds])
  show A.depth + _ ≤ _
  omega
theorem loop_room {A : Around} {args : Args} {k : Nat} (r : Room (k + 1) A) : Room k (A.under (.builtin "list.__repr__.loop" args)) :=
  ⟨r.hd, by have := r.dp; have := loop_depth (A := A) (args := args); omega, by have := r.un; rw [units_under_list_loop]; omega⟩
theorem loop_frames {A : Around} {args : Args} : (A.under (.builtin "list.__repr__.loop" args)).frames = A.frames := by
  first
    | rfl
    | (show pushEnvs _ A.frames = A.frames; rfl)
    | (simp [Around.under, Code.envs, pushEnvs])
theorem strs_done : ∀ {ts : List PySem.Str} {us : List Value}, Vals (ts.map V.str) us → ∃ done : List (PySem.Str × Tok), us = strValues done ∧ done.map (·.1) = ts
  | [], _, .nil => ⟨[], rfl, rfl⟩
  | t :: ts, _, .cons r rest => by
    obtain ⟨tk, rfl⟩ := r
    obtain ⟨done, rfl, e⟩ := strs_done rest
    exact ⟨(t, tk) :: done, rfl, by rw [List.map_cons, e]⟩
/-- what is asked of the items: a thing that tells the text, kept by all that only adds -/
structure ShowIt (X : Cx) (C d : Addr) (sp : Sp) (E : XK) (It : Addr → PySem.Str → Hp → Prop) : Prop where
  same : ∀ {a t H H'}, Same H H' → It a t H → It a t H'
  but : ∀ {a t p l H H'}, p ≠ d → H p = some (.lst l) → But p H H' → It a t H → It a t H'
  ins : ∀ {a t H}, It a t H → Ins H C a
  go : ∀ {a t H} {Q : VK}, It a t H → (∀ H', Same H H' → Q (.str t) H') → sp [.ref a] H Q E
open Builtin in
theorem repr_loopI {It : Addr → PySem.Str → Hp → Prop} {A : Around} {fd : FuncData} {ps : List PySem.Str} {d P : Addr} {base : Nat} {as : List Addr} {ts : List PySem.Str} (c : Own X.K C "__repr__" f) (F : FnD (some d) X.prog X.w X.K X.mg X.base CX n f fd ps sp) (hb : Binds X.K fd ps []) (hg : A.guards = some []) (sb : Sub X (n + 1) A) (hx : Passes CX X E)
    (Sh : ShowIt X C d sp E It) (len : ts.length = as.length) (hsz : base + (listText ts).length ≤ sizeLine) (dP : d ≠ P) {Q : PySem.Str → Hp → Prop} {R : Result → Shared → Prop} (hE : ∀ e s', X.xe e s' → R (.error e) s')
    (hR : ∀ u s' H', Inv X pins σ H' s' → Q (listText ts) H' → R (.ok (.ret (.str (listText ts) u))) s') :
    ∀ (k i : Nat) (s : Shared) (H : Hp), as.length - i = k → i ≤ as.length → Inv X pins σ H s → H d = some (.lst (as.map V.ref)) → H P = some (.lst ((ts.take i).map V.str)) →
    (∀ (j : Nat) (a : Addr) (t : PySem.Str), as[j]? = some a → ts[j]? = some t → It a t H) → (∀ H' l, (∀ b o, b ≠ P → H b = some o → H' b = some o) → H' P = some (.lst l) → Q (listText ts) H') →
    codeAny (model X.prog X.w) A (.builtin "list.__repr__.loop" ⟨[.ref d, rawInt i, .ref P, rawInt ((base + piled (ts.take i) : Nat) : Int)], []⟩) R s := by
  have hX : (listText ts).length = (textFrom 0 "[" ts).length + 1 := by
    show (textFrom 0 "[" ts ++ "]").length = _
    rw [strLen_append]; rfl
  have hL := textFrom_len ts 0 "["
  have hsz1 : as.length ≤ sizeLine := by
    have h1 := hL.1
    rw [if_neg (Nat.lt_irrefl 0)] at h1
    omega
  have hsz2 : ∀ t ∈ ts, t.length ≤ sizeLine := fun t ht => by
    have h2 := hL.2.1 t ht
    omega
  have hsz3 : (listText ts).length ≤ sizeLine := by omega
  have hp3 := piled_le_listText ts
  have items : ∀ {us : List Value}, Vals (as.map V.ref) us → us = as.map Value.ref := by
    intro us h
    have key : ∀ {l : List Addr} {us : List Value}, Vals (l.map V.ref) us → us = l.map Value.ref := by
      intro l
      induction l with
      | nil => intro us h; cases h; rfl
      | cons a l ih =>
        intro us h
        cases h with
        | cons r t =>
          obtain rfl : _ = Value.ref a := r
          rw [ih t]
          rfl
    exact key h
  intro k
  induction k with
  | zero =>
    intro i s H hk hi I hd hP hit hQ
    have hin : i = as.length := by omega
    obtain ⟨_, its, m, rv, _, e1⟩ := I.lstM hd
    obtain ⟨_, acc, c', rp, _, e2⟩ := I.lstM hP
    obtain rfl := items rv
    obtain ⟨done, rfl, hdone⟩ := strs_done rp
    refine codeAny_builtin PySem.F.entry_list_repr_loop ?_
    show wpAny _ _ («list.__repr__.loop» ⟨[.ref d, .int i 0, .ref P, .int ((base + piled (ts.take i) : Nat) : Int) 0], []⟩) _ _ s
    rw [repr_loop_tree]
    refine wpAny_bind (wpAny_listItems e1 rfl ?_)
    have hnone : (as.map Value.ref).toArray[(i : Int).toNat]? = none := by simp [hin]
    simp only [hnone]
    unfold reprEnd
    refine wpAny_bind (wpAny_listItems e2 rfl ?_)
    dsimp only
    rw [repr_fold]
    refine wpAny_bind (wpAny_pure ?_)
    have hall : done.map (·.1) = ts := by rw [hdone, hin, ← len, List.take_length]
    rw [hall]
    refine wpAny_bind (wpAny_mkStr (wpAny_pure ?_) hsz3)
    exact hR _ _ H (I.tok _) (hQ H _ (fun _ _ _ e => e) hP)
  | succ k ih =>
    intro i s H hk hi I hd hP hit hQ
    have hlt : i < as.length := by omega
    obtain ⟨_, its, m, rv, _, e1⟩ := I.lstM hd
    obtain rfl := items rv
    obtain ⟨t, ht⟩ : ∃ t, ts[i]? = some t := ⟨ts[i]'(by omega), List.getElem?_eq_getElem (by omega)⟩
    have iti := hit i as[i] t (List.getElem?_eq_getElem hlt) ht
    have hp1 := piled_take_succ ht
    have hp2 := piled_take_le ts (i + 1)
    refine codeAny_builtin PySem.F.entry_list_repr_loop ?_
    show wpAny _ _ («list.__repr__.loop» ⟨[.ref d, .int i 0, .ref P, .int ((base + piled (ts.take i) : Nat) : Int) 0], []⟩) _ _ s
    rw [repr_loop_tree]
    refine wpAny_bind (wpAny_listItems e1 rfl ?_)
    have hsome : (as.map Value.ref).toArray[(i : Int).toNat]? = some (.ref as[i]) := by simp [hlt]
    simp only [hsome]
    rw [Int.toNat_natCast]
    have gs : Gs (some d) (A.under (.builtin "list.__repr__.loop" ⟨[.ref d, rawInt i, .ref P, rawInt ((base + piled (ts.take i) : Nat) : Int)], []⟩)) :=
      ⟨_, guards_under_guard (isGuard_list_loop _) hg, fun b hb' => (Clear.nil b).cons (hb' d rfl)⟩
    refine wpAny_bind (wpAny_holding (wpAny_mono (reprUnder_own (Q := fun x s' => x = t ∧ ∃ H', Same H H' ∧ Inv X pins σ H' s') c F hb gs ⟨loop_room sb.room, loop_frames.trans sb.fr⟩ hx I (Sh.ins iti) (by omega) (Sh.go iti fun H' S => ⟨t, rfl, fun s' I' => ⟨rfl, H', S, I'⟩⟩)) (fun x s1 hq => ?_) fun e s' he => hE e s' he))
    obtain ⟨rfl, H1, S1, I1⟩ := hq
    refine wpAny_bind (wpAny_mkStr ?_ (hsz2 x (List.mem_of_getElem? ht)))
    refine wpAny_bind ?_
    show wpAny _ _ (updateSeq P _) _ _ _
    have hP1 := S1 _ _ hP
    obtain ⟨_, acc, c', rp, al, e2⟩ := I1.lstM hP1
    have hasz : acc.toArray.size ≤ sizeLine := by
      rw [List.size_toArray, ← al, List.length_map, List.length_take]
      omega
    refine wpAny_updateSeq (s := { s1 with toks := s1.toks + 1 }) e2 rfl (wpAny_pure ⟨PySem.F.quiet_list_repr_loop _, ?_⟩) hasz
    have z1 : ((i : Int) + 1) = ((i + 1 : Nat) : Int) := by omega
    have z2 : base + piled (ts.take i) + (x.length + 2) = base + piled (ts.take (i + 1)) := by omega
    rw [z1, z2]
    have I2 := I1.lset (t' := s1.toks + 1) (f := fun l => l.push (.str x s1.toks)) (its' := acc ++ [.str x s1.toks]) (ys := (ts.take (i + 1)).map V.str) hP1 e2 (by simp) (by
      rw [List.take_add_one, ht, List.map_append]
      exact rp.append (.cons ⟨_, rfl⟩ .nil)) (by rw [List.length_map, List.length_take]; omega)
    refine ih (i + 1) _ (upd H1 P (.lst ((ts.take (i + 1)).map V.str))) (by omega) hlt I2 ?_ upd_same ?_ ?_
    · rw [upd_ne dP]
      exact S1 _ _ hd
    · intro j a t' ha ht'
      exact Sh.but dP.symm hP ((But.of S1).trans But.at) (hit j a t' ha ht')
    · intro H' l k' hl
      exact hQ H' l (fun b o nb e => k' b o nb (by rw [upd_ne nb]; exact S1 _ _ e)) hl
/-- repr of a list of objects with their own __repr__ -/
theorem call_repr_listO {spd : Addr → Sp} {It : Addr → Addr → PySem.Str → Hp → Prop} {fd : FuncData} {ps : List PySem.Str} (c : Own X.K C "__repr__" f) (F : ∀ d, FnD (some d) X.prog X.w X.K X.mg X.base CX n f fd ps (spd d)) (hb : Binds X.K fd ps []) (gd : X.A.guards = some []) (hr : Room (n + 3) X.A) (hx : Passes CX X E) (Sh : ∀ d, ShowIt X C d (spd d) E (It d)) :
    CallR X (.builtin "repr") (fun xs H Q => ∃ d as ts, xs = [.ref d] ∧ H d = some (.lst (as.map V.ref)) ∧ as ≠ [] ∧ ts.length = as.length ∧ (listText ts).length ≤ sizeLine ∧ (∀ (j : Nat) (a : Addr) (t : PySem.Str), as[j]? = some a → ts[j]? = some t → It d a t H) ∧ ∀ H', Same H H' → Q (.str (listText ts)) H') := by
  intro pins s σ H xs us Q I r h
  obtain ⟨d, as, ts, rfl, hd, ne, len, hsz, hit, q⟩ := h
  obtain ⟨u, rfl, rv⟩ := vals1 r
  obtain rfl : u = Value.ref d := rv
  obtain ⟨_, its, m, rv, il, e1⟩ := I.lstM hd
  have hT : s.TypeIs (.ref d) "list" := ⟨_, e1, rfl⟩
  refine call_repr_slot (T := "list") (idr := "list.__repr__") hr.in1.units0 hT PySem.F.slot_list_repr.toG ?_
  refine wpAny_call (codeAny_call_builtin PySem.F.slot_list_repr.plain PySem.F.entry_list_repr (PySem.F.slot_list_repr.check _ _ _ _ _ _ _ _ hT (PySem.F.args_list_repr_1 _) ?_))
  match its, rv, il, e1 with
  | [], rv, il, _ =>
    rw [List.length_map] at il
    exact absurd (List.eq_nil_of_length_eq_zero il) ne
  | x :: l, rv, il, e1 =>
    refine wpAny_list_repr_head (A := X.A.in1.in1) (b := 0) gd (fun v rest kw hm => nomatch hm) e1 rfl ?_
    refine wpAny_bind (m := newList []) (wpAny_newObj_type ?_)
    refine wpAny_pure ⟨PySem.F.quiet_list_repr_loop _, ?_⟩
    have I1 := I.lnew (its := []) (ys := []) (t' := s.toks) .nil (Nat.zero_le _)
    have nf := I.fresh
    have dP : d ≠ s.heap.objs.size := ne_of_none hd nf
    have S1 : Same H (upd H s.heap.objs.size (.lst [])) := same_new nf
    have go := repr_loopI (base := 0) (P := s.heap.objs.size) (Q := fun t H' => Q (.str t) H') c (F d) hb (A := X.A.in1) gd ⟨hr.in1.mono (by omega), rfl⟩ hx (Sh d) len (by omega) dP
      (R := fun r s' => match r with | .ok (.ret v) => (∃ x t, v = .str x t ∧ EP X pins σ Q v s') | .ok _ => False | .error e => X.xe e s') (fun e s' h => h) (fun u s' H' I' q' => ⟨_, _, rfl, .str _, H', I', ⟨_, rfl⟩, q'⟩)
      as.length 0 _ _ rfl (Nat.zero_le _) I1 (S1 _ _ hd) upd_same (fun j a t ha ht => (Sh d).same S1 (hit j a t ha ht)) (fun H' l k _ => q H' fun b o e => k b o (ne_of_none e nf) (S1 _ _ e))
    exact go
end
/-! ### regions -/
def spReprD (D : Option Addr) (K : Frag) (C : Addr) : Sp := fun vs H Q _ => ∃ a f b, vs = [.ref a] ∧ Rg K C a H f b ∧ Fits f ∧ (∀ d, D = some d → NoDat H C d) ∧ ∀ H', Same H H' → Q (.str (txtR f b)) H'
section
variable {P : Program} {w : World} {K : PySem.W.Frag} {mg : PySem.Str → Option Value} {base : Heap}
theorem ok_reprD {fR C pS gS : Addr} {fd dS : FuncData} {n : Nat} (D : Option Addr) (F : Fun K "__repr__" "Region.__repr__" sRepr fR fd) (T : RTxt K mg C)
    (PS : PropOf K C "slabs" pS gS) (GS : FnOk P w K mg base CX0 n gS dS ["self"] (spSlabs K C)) (bS : Binds K dS ["self"] []) : FnD D P w K mg base CX0 (n + 2) fR fd ["self"] (spReprD D K C) := by
  have nd := scRepr.nd
  refine okD F scRepr (fun {vs H Q E} h => ?_) (fun cdv A outer st H vs Q E gA hr h => ?_)
  · obtain ⟨a, f, b, rfl, _⟩ := h
    rfl
  · obtain ⟨a, f, b, rfl, r, fit, nod, q⟩ := h
    have gd : Gs D (A.deeper (envOfC "Region.__repr__" (defScope sRepr) st.heap.objs.size fR cdv)) := gA
    refine ⟨_, (pss_cons (ps_if (pt_val (pe_fld (pv 0) rfl))
  (pss_one (ps_ret (pe_joined (PJ.cons pe_str (PJ.cons (pe_fmtG (C := C) gd hr.units (pe_prop (pv 0) T.cl PS GS hr bS .nil pass0 rfl)) (PJ.cons pe_str .nil))))))
  pss_nil)
  (pss_one (ps_ret (pe_joined (PJ.cons pe_str (PJ.cons (pe_fmtG (C := C) gd hr.units (pe_prop (pv 0) T.cl PS GS hr bS .nil pass0 rfl)) (PJ.cons pe_str .nil))))))), ?_⟩
    obtain ⟨dx, v, eA, d⟩ := id r
    obtain ⟨n0, s0, hn0⟩ := fit.sz
    have fl : f.length ≤ 1000 := by
      have := s0.few.1
      omega
    have nc := nice_out fit.sm
    have ns := nice_show _ nc
    have sl : (outF f).shown.length ≤ 1000000 := Nat.le_trans (shown_wide _ nc) fit.wide
    have big : 2000000 ≤ sizeLine := by decide
    have dp := depth_out f
    refine ⟨.ref a, rfl, a, C, dx, _, .bl b, rfl, eA, T.cl, T.nB, rf_b _ _, b, rfl, ?_⟩
    have z1 : (Str.empty ++ ("Region(" : Str)).length ≤ 100 := by decide
    have z2 : (Str.empty ++ ("~Region(" : Str)).length ≤ 100 := by decide
    have z3 : ((")" : Str)).length ≤ 100 := by decide
    have e0 : PyData.list (f.map encO) = outF f := rfl
    cases b with
    | true =>
      refine iteT ⟨_, rfl, by omega, .ref a, rfl, a, dx, _, rfl, eA, a, f, true, rfl, r, fl, fun H' D' ws S nD hD sl' => ?_⟩
      refine ⟨f.map encO, D', rfl, .lst (.inl (.inl hD)) (sl'.dp S), fun d e => (nod d e).same S, ns.1, ns.2.1, by rw [e0]; omega, by rw [e0]; omega, _, rfl, by rw [e0, Str.length_append]; omega, _, rfl, by rw [e0, Str.length_append, Str.length_append]; omega, q H' S⟩
    | false =>
      refine iteF ⟨_, rfl, by omega, .ref a, rfl, a, dx, _, rfl, eA, a, f, false, rfl, r, fl, fun H' D' ws S nD hD sl' => ?_⟩
      refine ⟨f.map encO, D', rfl, .lst (.inl (.inl hD)) (sl'.dp S), fun d e => (nod d e).same S, ns.1, ns.2.1, by rw [e0]; omega, by rw [e0]; omega, _, rfl, by rw [e0, Str.length_append]; omega, _, rfl, by rw [e0, Str.length_append, Str.length_append]; omega, q H' S⟩
end
/-- a region among those that are shown -/
def ItR (K : Frag) (C d a : Addr) (t : PySem.Str) (H : Hp) : Prop := ∃ f b, Rg K C a H f b ∧ Fits f ∧ t = txtR f b ∧ NoDat H C d
theorem NoDat.but {H H' : Hp} {C d p : Addr} {l : List V} (pd : p ≠ d) (hp : H p = some (.lst l)) (B : But p H H') (h : NoDat H C d) : NoDat H' C d := by
  obtain ⟨vs, a, e, m, dx, fs, i⟩ := h
  exact ⟨vs, a, B d _ (Ne.symm pd) e, m, dx, fs, B a _ (ne_of i hp (by simp)) i⟩
theorem showR {X : Cx} {C d : Addr} {E : XK} : ShowIt X C d (spReprD (some d) X.K C) E (ItR X.K C d) where
  same := fun S ⟨f, b, r, fit, e, nd⟩ => ⟨f, b, r.same S, fit, e, nd.same S⟩
  but := fun pd hp B ⟨f, b, r, fit, e, nd⟩ => ⟨f, b, Rg.but hp B r, fit, e, nd.but pd hp B⟩
  ins := fun ⟨f, b, r, _⟩ => r.ins
  go := fun ⟨f, b, r, fit, e, nd⟩ q => ⟨_, f, b, rfl, r, fit, fun d' z => by cases z; exact nd, fun H' S => by rw [← e]; exact q H' S⟩
theorem fits_text {f : Form} {b : Bool} (h : Fits f) : (txtR f b).length ≤ 1000100 := by
  have sl : (outF f).shown.length ≤ 1000000 := Nat.le_trans (shown_wide _ (nice_out h.sm)) h.wide
  have z1 : (Str.empty ++ ("Region(" : Str)).length ≤ 50 := by decide
  have z2 : (Str.empty ++ ("~Region(" : Str)).length ≤ 50 := by decide
  have z3 : ((")" : Str)).length ≤ 50 := by decide
  unfold txtR
  rw [Str.length_append, Str.length_append]
  cases b
  · simp only [Bool.false_eq_true, if_false]; omega
  · simp only [if_true]; omega
end Vf

set_option Elab.async false
set_option linter.all false
set_option maxRecDepth 100000
set_option exponentiation.threshold 3000
/-! What a law asks of the operators. -/
namespace Vf
open PySem PySem.Spec PyProof.Rows L2
open C8 (pss_cut tCut)
open Fm (Spans Form Slab Keep)
theorem orV {ta tb : TE} {σ : L2.St} {H : Hp} {Q : VK} (l r : Bool) (ha : ∀ Q : VK, Q (.bl l) H → ta σ H Q) (hb : ∀ Q : VK, Q (.bl r) H → tb σ H Q) (q : Q (.bl (l || r)) H) : tOrV ta tb σ H Q := by
  refine ha _ ⟨l, rfl, ?_⟩
  cases l with
  | true => exact iteT q
  | false => exact iteF (hb _ q)
theorem andV {ta tb : TE} {σ : L2.St} {H : Hp} {Q : VK} (l r : Bool) (ha : ∀ Q : VK, Q (.bl l) H → ta σ H Q) (hb : ∀ Q : VK, Q (.bl r) H → tb σ H Q) (q : Q (.bl (l && r)) H) : tAndV ta tb σ H Q := by
  refine ha _ ⟨l, rfl, ?_⟩
  cases l with
  | true => exact iteT (hb _ q)
  | false => exact iteF q
theorem bools_dp {K : PySem.W.Frag} {H : Hp} : ∀ l : List Bool, DpAll K H (l.map V.bl) (l.map PyData.bool)
  | [] => .nil
  | b :: l => .cons (.bl b) (bools_dp l)
theorem bools_shaped (l : List Bool) : SeqAt.shaped (.list (l.map PyData.bool)) = true := by
  have h1 : ∀ l : List Bool, PyData.canLayAll0 (l.map PyData.bool) = true := fun l => by
    induction l with
    | nil => rfl
    | cons b l ih => simp only [List.map_cons, PyData.canLayAll0, PyData.canLay0, ih, Bool.and_self]
  have h2 : ∀ l : List Bool, PyData.depthAll (l.map PyData.bool) ≤ 1 := fun l => depthAll_mem.mpr fun d hd => by
    obtain ⟨b, _, rfl⟩ := List.mem_map.mp hd
    simp [PyData.depth]
  unfold SeqAt.shaped
  have h3 : PyData.canLay0 (.list (l.map PyData.bool)) = true := by
    simp only [PyData.canLay0]
    exact h1 l
  have h4 : PyData.depth (.list (l.map PyData.bool)) ≤ 2 := by
    simp only [PyData.depth]
    have := h2 l
    omega
  rw [h3, decide_eq_true (by omega)]
  rfl
theorem bools_eqv (l : List Bool) : PyData.eqv (.list (l.map PyData.bool)) (.list (l.map PyData.bool)) = true := by
  simp only [PyData.eqv]
  induction l with
  | nil => rfl
  | cons b l ih => simp only [List.map_cons, PyData.eqvAll, PyData.eqv, ih, Bool.and_true]; cases b <;> rfl
theorem bools_show (l : List Bool) (h : l.length ≤ 100) : nice (.list (l.map PyData.bool)) = true ∧ (PyData.list (l.map PyData.bool)).depth ≤ 60 ∧ wide (.list (l.map PyData.bool)) ≤ 1000000 := by
  have h1 : ∀ l : List Bool, niceAll (l.map PyData.bool) = true := fun l => by
    induction l with
    | nil => rfl
    | cons b l ih => simp only [List.map_cons, niceAll, nice, ih, Bool.and_self]
  have h2 : ∀ l : List Bool, PyData.depthAll (l.map PyData.bool) ≤ 1 := fun l => depthAll_mem.mpr fun d hd => by
    obtain ⟨b, _, rfl⟩ := List.mem_map.mp hd
    simp [PyData.depth]
  have h3 : ∀ l : List Bool, wideAll (l.map PyData.bool) = 7 * l.length := fun l => by
    induction l with
    | nil => rfl
    | cons b l ih => simp only [List.map_cons, wideAll, wide, ih, List.length_cons]; omega
  refine ⟨?_, ?_, ?_⟩
  · simp only [nice]; exact h1 l
  · simp only [PyData.depth]; have := h2 l; omega
  · simp only [wide, h3]; omega
theorem filter_any (φ : Int × Int → Bool) : ∀ l : List (Int × Int), (!((l.filter φ).map encP).isEmpty) = l.any φ
  | [] => rfl
  | q :: l => by
    rw [List.filter_cons, List.any_cons]
    cases φ q with
    | true => rfl
    | false => exact filter_any φ l
theorem scRight : FnScope ["_law_one", "_law_other", "_law_probes_here", "_law_a", "_law_b", "_law_found", "_law_inside", "_law_square", "_law_due", "_law_some", "_law_left", "_law_right_here", "_law_region"] ["_law_one", "_law_other", "_law_probes_here"] (defScope sRight) := ⟨rfl, rfl, rfl, by decide +kernel, rfl, by decide +kernel, by decide +kernel⟩
/-- the five results -/
def five : List RX := [.bin kOr (.var 3) (.var 4), .bin kAnd (.var 3) (.var 4), .bin kSub (.var 3) (.var 4), .bin kXor (.var 3) (.var 4), .inv (.var 3)]
def ρ5 (f g : Form) (o p : Bool) : Nat → Form × Bool := fun i => if i = 3 then (f, !o) else (g, !p)
def spRight5 (K : PySem.W.Frag) (C : Addr) : Sp := fun vs H Q _ => ∃ (r1 r2 pl g1 g2 l1 l2 : Addr) (us1 us2 zs : List V) (b1 b2 : List Bx) (f1 f2 : Form) (o1 o2 : Bool) (xs ys : List Int) (sqs : List (Int × Int)), vs = [.ref r1, .ref r2, .ref pl] ∧ Dr K C H xs ys r1 g1 l1 us1 b1 f1 o1 ∧ Dr K C H xs ys r2 g2 l2 us2 b2 f2 o2 ∧
  H pl = some (.lst zs) ∧ DpAll K H zs (sqs.map encP) ∧ sqs.length ≤ 500 ∧ (∀ x ∈ ext xs, ∀ y ∈ ext ys, (x, y) ∈ sqs) ∧ Fm.Up xs ∧ Fm.Up ys ∧ 1 ≤ xs.length ∧ 1 ≤ ys.length ∧ ∀ H', Same H H' → Q (.bl true) H'
section
variable {P : Program} {w : World} {K : PySem.W.Frag} {mg : Str → Option Value} {base : Heap}
set_option maxHeartbeats 1000000 in
theorem ok_right5 {fl' C fN fF gT pS gS pB gB gBo gW : Addr} {fd dN dF dS dB dW : FuncData} {n : Nat} (F : Fun K "_law_right" "_law_right" sRight fl' fd) (R : ROps P w K mg base C n)
    (GN : FnOk P w K mg base CX0 n fN dN ["_law_one", "_law_square"] (spInL K)) (kN : PySem.W.keepIn K (.ref fN) = true) (bN : Binds K dN ["_law_one", "_law_square"] []) (gN : mg "_law_in" = some (.ref fN))
    (GF : FnOk P w K mg base CX0 n fF dF ["_law_form"] (spIsForm K)) (kF : PySem.W.keepIn K (.ref fF) = true) (bF : Binds K dF ["_law_form"] []) (gF : mg "_law_is_form" = some (.ref fF))
    (OT : Own K C "__contains__" gT) (GT' : FnR P w K mg base CX0 n gT (spContains K C))
    (PS : PropOf K C "slabs" pS gS) (GSl : FnOk P w K mg base CX0 n gS dS ["self"] (spSlabs K C)) (bSl : Binds K dS ["self"] [])
    (PB : PropOf K C "is_bounded" pB gB) (GBd : FnOk P w K mg base CX0 n gB dB ["self"] (spIsB K C)) (bBd : Binds K dB ["self"] [])
    (OB : Own K C "__bool__" gBo) (GB' : FnR P w K mg base CX0 n gBo (spBool K C)) (MW : Meth K C "within" gW) (GW' : FnOk P w K mg base CX0 (n + 3) gW dW ["self", "other"] (spWithin K C)) (bW' : Binds K dW ["self", "other"] [])
    (m_bool : mg "bool" = none) (m_repr : mg "repr" = none) : FnG P w K mg base CX0 (n + 4) fl' fd ["_law_one", "_law_other", "_law_probes_here"] (spRight5 K C) := by
  have nd := scRight.nd
  have T := R.txt
  have sf := R.sf
  obtain ⟨g1', OO, GO⟩ := R.or_
  obtain ⟨g2', OA, GA'⟩ := R.and_
  obtain ⟨g3', OS, GS'⟩ := R.sub_
  obtain ⟨g4', OX, GX'⟩ := R.xor_
  obtain ⟨g5', OI, GI⟩ := R.inv_
  refine okG F scRight (fun {vs H Q E} h => ?_) (fun cdv A outer st H vs Q E gA hr h => ?_)
  · obtain ⟨r1, r2, pl, _, _, _, _, _, _, _, _, _, _, _, _, _, _, _, _, rfl, _⟩ := h
    rfl
  · obtain ⟨r1, r2, pl, g1, g2, l1, l2, us1, us2, zs, b1, b2, f1, f2, o1, o2, xs, ys, sqs, rfl, D1, D2, hpl, dz, sz, mem, ux, uy, x1, y1, q⟩ := h
    have h0 : Room n (A.deeper (envOfC "_law_right" (defScope sRight) st.heap.objs.size fl' cdv)) := hr.mono (by omega)
    have h1 : Room (n + 1) (A.deeper (envOfC "_law_right" (defScope sRight) st.heap.objs.size fl' cdv)) := hr.mono (by omega)
    have h2 : Room (n + 2) (A.deeper (envOfC "_law_right" (defScope sRight) st.heap.objs.size fl' cdv)) := hr.mono (by omega)
    have h3 : Room (n + 3) (A.deeper (envOfC "_law_right" (defScope sRight) st.heap.objs.size fl' cdv)) := hr
    have gd : (A.deeper (envOfC "_law_right" (defScope sRight) st.heap.objs.size fl' cdv)).guards = some [] := gA
    refine ⟨_, (pss_cut (ps_par (i := 3) (j := 4) (by rfl) nd rfl rfl (by decide) rfl rfl (pa_cons (pe_ix ix_list (pv 0) pe_int (fun _ _ => rfl)) (pa_cons (pe_ix ix_list (pv 1) pe_int (fun _ _ => rfl)) pa_nil)) (by rfl))
  (pss_cut (ps_set (i := 5) nd rfl (Or.inl rfl) (pe_lst (pa_cons (pe_op (op_binO (op := .BitOr) OO sf GO h0 pass0) (pv 3) (pv 4)) (pa_cons (pe_op (op_binO (op := .BitAnd) OA sf GA' h0 pass0) (pv 3) (pv 4)) (pa_cons (pe_op (op_binO (op := .Sub) OS sf GS' h0 pass0) (pv 3) (pv 4)) (pa_cons (pe_op (op_binO (op := .BitXor) OX sf GX' h0 pass0) (pv 3) (pv 4)) (pa_cons (pe_un (un_invO OI GI h0 pass0) (pv 3)) pa_nil)))))))
  (pss_cut (ps_if (pt_cmpR (op_neD hr.units) (pe_lc (own := [("_law_region", 12)]) (g := (gName 12)) rfl nd (pi_list (pv 5)) (blkOk_by (N := ["_law_one", "_law_other", "_law_probes_here", "_law_a", "_law_b", "_law_found", "_law_inside", "_law_square", "_law_due", "_law_some", "_law_left", "_law_right_here", "_law_region"]) (sc := defScope sRight) (by decide +kernel)) (fun _ _ _ _ _ => (pg_name (i := 12) nd rfl (Or.inl rfl))) (fun _ _ _ _ _ => (pts_one (pt_not (pt_val (pe_call GF h0 (by rfl) gF kF bF .nil pass0 (pa_cons (pe_prop (pv 12) T.cl PS GSl h1 bSl .nil pass0 rfl) pa_nil)))))) (fun _ _ _ _ _ => (pv 12))) (pe_lst pa_nil) (nomark _))
  (pss_one (ps_ret pe_bl))
  pss_nil)
  (pss_cut (ps_set (i := 6) nd rfl (Or.inl rfl) pe_bl)
  (pss_cut (ps_for PassesOwn.never rfl (pi_list (pv 2)) (pg_name (i := 7) nd rfl (Or.inr rfl))
  (pss_cut (ps_par (i := 10) (j := 11) (by rfl) nd rfl rfl (by decide) rfl rfl (pa_cons (pe_call GN h0 (by rfl) gN kN bN .nil pass0 (pa_cons (pv 0) (pa_cons (pv 7) pa_nil))) (pa_cons (pe_call GN h0 (by rfl) gN kN bN .nil pass0 (pa_cons (pv 1) (pa_cons (pv 7) pa_nil))) pa_nil)) (by rfl))
  (pss_cut (ps_set (i := 8) nd rfl (Or.inl rfl) (pe_lst (pa_cons (pe_or (pv 10) (pe_one (pv 11))) (pa_cons (pe_and (pv 10) (pe_one (pv 11))) (pa_cons (pe_and (pv 10) (pe_one (pe_not (pv 11)))) (pa_cons (pe_cmpR op_ne (pv 10) (pv 11) (nomark _)) (pa_cons (pe_not (pv 10)) pa_nil)))))))
  (pss_cut (ps_if (pt_cmpR (op_neD hr.units) (pe_lc (own := [("_law_region", 12)]) (g := (gName 12)) (tt := tYes) rfl nd (pi_list (pv 5)) (blkOk_by (N := ["_law_one", "_law_other", "_law_probes_here", "_law_a", "_law_b", "_law_found", "_law_inside", "_law_square", "_law_due", "_law_some", "_law_left", "_law_right_here", "_law_region"]) (sc := defScope sRight) (by decide +kernel)) (fun _ _ _ _ _ => (pg_name (i := 12) nd rfl (Or.inl rfl))) (fun _ _ _ _ _ => pts_nil) (fun _ _ _ _ _ => (pe_cmpR (op_inO OT GT' h0 pass0) (pv 7) (pv 12) (by rfl)))) (pv 8) (nomark _))
  (pss_one (ps_ret pe_bl))
  pss_nil)
  (pss_one (ps_set (i := 6) nd rfl (Or.inl rfl) (pe_and (pv 6) (pe_one (pe_or (pv 11) (pe_one (pe_not (pv 10))))))))))))
  (pss_cut (ps_set (i := 8) nd rfl (Or.inl rfl) (pe_lst (pa_cons (pe_not (pe_or (pe_ix ix_list (pv 0) pe_int (fun _ _ => rfl)) (pe_one (pe_ix ix_list (pv 1) pe_int (fun _ _ => rfl))))) (pa_cons (pe_not (pe_and (pe_ix ix_list (pv 0) pe_int (fun _ _ => rfl)) (pe_one (pe_ix ix_list (pv 1) pe_int (fun _ _ => rfl))))) (pa_cons (pe_or (pe_not (pe_ix ix_list (pv 0) pe_int (fun _ _ => rfl))) (pe_one (pe_ix ix_list (pv 1) pe_int (fun _ _ => rfl)))) (pa_cons (pe_cmpR op_eq (pe_ix ix_list (pv 0) pe_int (fun _ _ => rfl)) (pe_ix ix_list (pv 1) pe_int (fun _ _ => rfl)) (nomark _)) (pa_cons (pe_ix ix_list (pv 0) pe_int (fun _ _ => rfl)) pa_nil)))))))
  (pss_cut (ps_if (pt_cmpR (op_neD hr.units) (pe_lc (own := [("_law_region", 12)]) (g := (gName 12)) (tt := tYes) rfl nd (pi_list (pv 5)) (blkOk_by (N := ["_law_one", "_law_other", "_law_probes_here", "_law_a", "_law_b", "_law_found", "_law_inside", "_law_square", "_law_due", "_law_some", "_law_left", "_law_right_here", "_law_region"]) (sc := defScope sRight) (by decide +kernel)) (fun _ _ _ _ _ => (pg_name (i := 12) nd rfl (Or.inl rfl))) (fun _ _ _ _ _ => pts_nil) (fun _ _ _ _ _ => (pe_prop (pv 12) T.cl PB GBd h1 bBd .nil pass0 rfl))) (pv 8) (nomark _))
  (pss_one (ps_ret pe_bl))
  pss_nil)
  (pss_cut (ps_set (i := 9) nd rfl (Or.inl rfl) (pe_cmpR (op_neD hr.units) (pe_lc (own := [("_law_square", 7)]) (g := (gName 7)) rfl nd (pi_list (pv 2)) (blkOk_by (N := ["_law_one", "_law_other", "_law_probes_here", "_law_a", "_law_b", "_law_found", "_law_inside", "_law_square", "_law_due", "_law_some", "_law_left", "_law_right_here", "_law_region"]) (sc := defScope sRight) (by decide +kernel)) (fun _ _ _ _ _ => (pg_name (i := 7) nd rfl (Or.inl rfl))) (fun _ _ _ _ _ => (pts_one (pt_val (pe_call GN h0 (by rfl) gN kN bN .nil pass0 (pa_cons (pv 0) (pa_cons (pv 7) pa_nil)))))) (fun _ _ _ _ _ => (pv 7))) (pe_lst pa_nil) (nomark _)))
  (pss_one (ps_ret (pe_cmpR op_eq (pe_callB (call_repr gd hr.units) (by rfl) m_repr (by decide +kernel) (pa_cons (pe_lst (pa_cons (pe_meth (pv 3) T.cl MW GW' h3 bW' .nil pass0 (pa_cons (pv 4) pa_nil)) (pa_cons (pe_callTy (call_boolO OB GB' h2 pass0) (by rfl) m_bool (by decide +kernel) (pa_cons (pv 3) pa_nil)) (pa_cons (pe_prop (pv 3) T.cl PB GBd h1 bBd .nil pass0 rfl) pa_nil)))) pa_nil)) (pe_callB (call_repr gd hr.units) (by rfl) m_repr (by decide +kernel) (pa_cons (pe_lst (pa_cons (pv 6) (pa_cons (pv 9) (pa_cons (pe_not (pe_ix ix_list (pv 0) pe_int (fun _ _ => rfl))) pa_nil)))) pa_nil)) (nomark _)))))))))))), ?_⟩
    have in1 : ∀ x y, inR f1 (!o1) x y = (hasL b1 x y != o1) := inR_of D1.io
    have in2 : ∀ x y, inR f2 (!o2) x y = (hasL b2 x y != o2) := inR_of D2.io
    -- a, b
    refine ⟨fun σ' H' => H' = H ∧ σ' = [some (.ref r1), some (.ref r2), some (.ref pl), some (.ref g1), some (.ref g2), none, none, none, none, none, none, none, none], ?_, ?_⟩
    · exact ⟨.ref r1, rfl, r1, _, 0, .ref g1, rfl, rfl, .inl (.inl D1.at_), atI_nat (j := 0) rfl, .ref r2, rfl, r2, _, 0, .ref g2, rfl, rfl, .inl (.inl D2.at_), atI_nat (j := 0) rfl, _, _, rfl, rfl, rfl⟩
    rintro _ H1 ⟨rfl, rfl⟩
    -- found
    have v3 : (∃ a, [some (.ref r1), some (.ref r2), some (.ref pl), some (.ref g1), some (.ref g2), none, none, none, none, none, none, none, none][3]? = some (some (V.ref a)) ∧ Rg K C a H1 (ρ5 f1 f2 o1 o2 3).1 (ρ5 f1 f2 o1 o2 3).2) ∧ Sz 4 (ρ5 f1 f2 o1 o2 3).1 := ⟨⟨g1, rfl, D1.rg⟩, D1.sz⟩
    have v4 : (∃ a, [some (.ref r1), some (.ref r2), some (.ref pl), some (.ref g1), some (.ref g2), none, none, none, none, none, none, none, none][4]? = some (some (V.ref a)) ∧ Rg K C a H1 (ρ5 f1 f2 o1 o2 4).1 (ρ5 f1 f2 o1 o2 4).2) ∧ Sz 4 (ρ5 f1 f2 o1 o2 4).1 := ⟨⟨g2, rfl, D2.rg⟩, D2.sz⟩
    refine ⟨fun σ' H' => ∃ (fl : Addr) (as : List Addr), Same H1 H' ∧ H1 fl = none ∧ H' fl = some (.lst (as.map V.ref)) ∧ Paired (fun a (e : RX) => Rg K C a H' (e.ev (ρ5 f1 f2 o1 o2)).1 (e.ev (ρ5 f1 f2 o1 o2)).2) as five ∧ σ' = [some (.ref r1), some (.ref r2), some (.ref pl), some (.ref g1), some (.ref g2), some (.ref fl), none, none, none, none, none, none, none], ?_, ?_⟩
    · refine RX.rd (ρ := ρ5 f1 f2 o1 o2) (ν := fun _ => 4) (E := E0) (.bin kOr (.var 3) (.var 4)) ⟨v3, v4⟩ (by decide) fun G0 x0 S0 q0 => ?_
      refine RX.rd (ρ := ρ5 f1 f2 o1 o2) (ν := fun _ => 4) (E := E0) (.bin kAnd (.var 3) (.var 4)) (RX.Ok.go S0 (e := .bin kAnd (.var 3) (.var 4)) ⟨v3, v4⟩) (by decide) fun G1 x1' S1 q1 => ?_
      refine RX.rd (ρ := ρ5 f1 f2 o1 o2) (ν := fun _ => 4) (E := E0) (.bin kSub (.var 3) (.var 4)) (RX.Ok.go (S0.trans S1) (e := .bin kSub (.var 3) (.var 4)) ⟨v3, v4⟩) (by decide) fun G2 x2 S2 q2 => ?_
      refine RX.rd (ρ := ρ5 f1 f2 o1 o2) (ν := fun _ => 4) (E := E0) (.bin kXor (.var 3) (.var 4)) (RX.Ok.go ((S0.trans S1).trans S2) (e := .bin kXor (.var 3) (.var 4)) ⟨v3, v4⟩) (by decide) fun G3 x3 S3 q3 => ?_
      refine RX.rd (ρ := ρ5 f1 f2 o1 o2) (ν := fun _ => 4) (E := E0) (.inv (.var 3)) (RX.Ok.go (((S0.trans S1).trans S2).trans S3) (e := .inv (.var 3)) v3) (by decide) fun G4 x4 S4 q4 => ?_
      refine ⟨(by show 5 ≤ sizeLine; decide), fun fl hfl => ?_⟩
      have SS := (((S0.trans S1).trans S2).trans S3).trans S4
      have S5 := same_new (o := .lst [.ref x0, .ref x1', .ref x2, .ref x3, .ref x4]) hfl
      refine ⟨fl, [x0, x1', x2, x3, x4], SS.trans S5, SS.free hfl, upd_same, ?_, rfl⟩
      exact .cons (((((q0.same S1).same S2).same S3).same S4).same S5) (.cons ((((q1.same S2).same S3).same S4).same S5) (.cons (((q2.same S3).same S4).same S5) (.cons ((q3.same S4).same S5) (.cons (q4.same S5) .nil))))
    rintro _ H2 ⟨fl, as, S2, fn, hfl, pr, rfl⟩
    have D1a := D1.same S2
    have D2a := D2.same S2
    have a5 : as.length = 5 := Paired.length pr
    have okx : ∀ e ∈ five, e.Ok (fun i => Sz 4 (ρ5 f1 f2 o1 o2 i).1) := fun e he => by
      simp only [five, List.mem_cons, List.not_mem_nil, or_false] at he
      rcases he with rfl | rfl | rfl | rfl | rfl
      all_goals first | exact ⟨v3.2, v4.2⟩ | exact v3.2
    have szx : ∀ e ∈ five, Sz 8 (e.ev (ρ5 f1 f2 o1 o2)).1 := fun e he => (RX.sz (okx e he)).mono (by
      simp only [five, List.mem_cons, List.not_mem_nil, or_false] at he
      rcases he with rfl | rfl | rfl | rfl | rfl <;> decide)
    have at5 : ∀ {i : Nat}, i < 5 → ∃ a e, as[i]? = some a ∧ five[i]? = some e ∧ e ∈ five ∧ Rg K C a H2 (e.ev (ρ5 f1 f2 o1 o2)).1 (e.ev (ρ5 f1 f2 o1 o2)).2 := fun {i} hi => by
      obtain ⟨a, ha, r⟩ := paired_at (i := i) (ys := five) (show i < five.length from hi) pr
      exact ⟨a, five[i]'hi, ha, List.getElem?_eq_getElem hi, List.getElem_mem _, r⟩
    have emp : ∀ {G : Hp} {l2 : Addr}, G l2 = some (.lst []) → Dp K G (.ref l2) (.list []) := fun h => .lst (.inl (.inl h)) .nil
    have shn : SeqAt.shaped (.list []) = true := by decide
    -- all are forms
    refine ⟨fun σ' H' => Same H2 H' ∧ σ' = [some (.ref r1), some (.ref r2), some (.ref pl), some (.ref g1), some (.ref g2), some (.ref fl), none, none, none, none, none, none, none], ?_, ?_⟩
    · refine ⟨.ref fl, rfl, fl, rfl, ⟨_, .inl (.inl hfl)⟩, fun D hD => ?_⟩
      refine wk 5 (fun i H' => Same H2 H' ∧ H' D = some (.lst [])) ⟨same_new hD, upd_same⟩ (fun i H3 hi r => ?_) (fun H3 r => ?_)
      · obtain ⟨S3, hL⟩ := r
        refine tl_go (xs := as.map V.ref) (.inl (.inl (S3 _ _ hfl))) (by rw [List.length_map, a5]; exact hi) (fun z hz => ?_)
        obtain ⟨a, e, ha, he, hem, rg⟩ := at5 hi
        rw [List.getElem?_map, ha] at hz
        obtain rfl := (Option.some.inj hz).symm
        have rg3 := rg.same S3
        obtain ⟨dx, v, eX, dv⟩ := id rg3
        have s8 := szx e hem
        have few := s8.few
        refine ⟨rfl, .ref a, rfl, a, dx, _, rfl, eX, a, _, _, rfl, rg3, (by have := few.1; omega), fun H4 D4 ws S4 n4 hD4 sl => ?_⟩
        refine ⟨H3, D4, ws, _, rfl, S4, hD4, sl, s8.ok, (by have := few.1; omega), (fun p hp => by have := few.2 p hp; omega), fun H5 S5 => ⟨true, rfl, iteF ⟨S3.trans (S4.trans S5), S5 _ _ (S4 _ _ hL)⟩⟩⟩
      · obtain ⟨S3, hL⟩ := r
        have te := tl_end (K := K) (H := H3) (a := fl) (xs := as.map V.ref) (.inl (.inl (S3 _ _ hfl)))
        rw [List.length_map, a5] at te
        refine ⟨te, Nat.zero_le _, fun e he => ?_⟩
        have S4 := same_new (o := .lst []) he
        exact ⟨.list [], .list [], emp (S4 _ _ hL), emp upd_same, shn, shn, _, rfl, ite2 (fun e => absurd e (by decide)) (fun _ => ⟨S3.trans S4, rfl⟩)⟩
    rintro _ H3 ⟨S3, rfl⟩
    have S13 := S2.trans S3
    refine ⟨fun σ' H' => H' = H3 ∧ σ' = [some (.ref r1), some (.ref r2), some (.ref pl), some (.ref g1), some (.ref g2), some (.ref fl), some (.bl true), none, none, none, none, none, none], ⟨rfl, rfl⟩, ?_⟩
    rintro _ H4 ⟨rfl, rfl⟩
    -- the squares
    refine ⟨fun σ' H' => ∃ (o7 o8 o10 o11 : Option V), Same H4 H' ∧ σ' = [some (.ref r1), some (.ref r2), some (.ref pl), some (.ref g1), some (.ref g2), some (.ref fl), some (.bl (sqs.all fun q => (hasL b2 q.1 q.2 != o2) || !(hasL b1 q.1 q.2 != o1))), o7, o8, none, o10, o11, none], ?_, ?_⟩
    · refine ⟨.ref pl, rfl, pl, rfl, ⟨_, .inl (.inl (S13 _ _ hpl))⟩, wkS zs.length (fun k σ H' => ∃ (o7 o8 o10 o11 : Option V), Same H4 H' ∧ σ = [some (.ref r1), some (.ref r2), some (.ref pl), some (.ref g1), some (.ref g2), some (.ref fl), some (.bl ((sqs.take k).all fun q => (hasL b2 q.1 q.2 != o2) || !(hasL b1 q.1 q.2 != o1))), o7, o8, none, o10, o11, none]) ⟨none, none, none, none, fun _ _ e => e, rfl⟩ (fun k σ H5 hk r => ?_) (fun σ H5 r => ?_)⟩
      · obtain ⟨o7, o8, o10, o11, S5, rfl⟩ := r
        have S15 := S13.trans S5
        refine tl_go (xs := zs) (.inl (.inl (S15 _ _ hpl))) hk (fun z hz => ?_)
        obtain ⟨d, hd1, hd2⟩ := dpAll_get dz hz
        rw [List.getElem?_map] at hd1
        obtain ⟨uv, huv, rfl⟩ := Option.map_eq_some_iff.mp hd1
        have dz5 := dp_same S15 hd2
        have D1b := D1.same S15
        have D2b := D2.same S15
        generalize hl : (hasL b1 uv.1 uv.2 != o1) = l
        generalize hrr : (hasL b2 uv.1 uv.2 != o2) = rr
        -- left, right
        refine ⟨fun σ' H' => Same H5 H' ∧ σ' = [some (.ref r1), some (.ref r2), some (.ref pl), some (.ref g1), some (.ref g2), some (.ref fl), some (.bl ((sqs.take k).all fun q => (hasL b2 q.1 q.2 != o2) || !(hasL b1 q.1 q.2 != o1))), some z, o8, none, some (.bl l), some (.bl rr), none], ?_, ?_⟩
        · refine ⟨.ref r1, rfl, z, rfl, r1, l1, _, z, us1, b1, o1, uv.1, uv.2, rfl, D1b.at_, .inl (.inl D1b.hl), D1b.bx.dp, by have := D1.few; omega, dz5, fun H6 S6 => ?_⟩
          refine ⟨.ref r2, rfl, z, rfl, r2, l2, _, z, us2, b2, o2, uv.1, uv.2, rfl, S6 _ _ D2b.at_, .inl (.inl (S6 _ _ D2b.hl)), (bxA_same S6 D2b.bx).dp, by have := D2.few; omega, dp_same S6 dz5, fun H7 S7 => ?_⟩
          exact ⟨_, _, rfl, S6.trans S7, by rw [hl, hrr]; rfl⟩
        rintro _ H6 ⟨S6, rfl⟩
        -- due
        refine ⟨fun σ' H' => ∃ du, Same H6 H' ∧ H6 du = none ∧ H' du = some (.lst ([l || rr, l && rr, l && !rr, l != rr, !l].map V.bl)) ∧ σ' = [some (.ref r1), some (.ref r2), some (.ref pl), some (.ref g1), some (.ref g2), some (.ref fl), some (.bl ((sqs.take k).all fun q => (hasL b2 q.1 q.2 != o2) || !(hasL b1 q.1 q.2 != o1))), some z, some (.ref du), none, some (.bl l), some (.bl rr), none], ?_, ?_⟩
        · refine orV l rr (fun Q q => ⟨_, rfl, q⟩) (fun Q q => ⟨_, rfl, q⟩) ?_
          refine andV l rr (fun Q q => ⟨_, rfl, q⟩) (fun Q q => ⟨_, rfl, q⟩) ?_
          refine andV l (!rr) (fun Q q => ⟨_, rfl, q⟩) (fun Q q => ⟨_, rfl, rr, rfl, q⟩) ?_
          refine ⟨.bl l, rfl, .bl rr, rfl, rfl, .bl l, rfl, l, rfl, (by show 5 ≤ sizeLine; decide), fun du hdu => ⟨du, same_new hdu, hdu, ?_, rfl⟩⟩
          rw [upd_same, show V.bl (!decide (V.bl l = V.bl rr)) = V.bl (l != rr) by cases l <;> cases rr <;> rfl]
          rfl
        rintro _ H7 ⟨du, S7, dun, hdu, rfl⟩
        have S27 := (S3.trans S5).trans (S6.trans S7)
        have dz7 := dp_same (S6.trans S7) dz5
        -- the five of them
        refine ⟨fun σ' H' => Same H7 H' ∧ σ' = [some (.ref r1), some (.ref r2), some (.ref pl), some (.ref g1), some (.ref g2), some (.ref fl), some (.bl ((sqs.take k).all fun q => (hasL b2 q.1 q.2 != o2) || !(hasL b1 q.1 q.2 != o1))), some z, some (.ref du), none, some (.bl l), some (.bl rr), none], ?_, ?_⟩
        · refine ⟨.ref fl, rfl, fl, rfl, ⟨_, .inl (.inl (S27 _ _ hfl))⟩, fun D hD => ?_⟩
          refine wk 5 (fun i H' => Same H7 H' ∧ H' D = some (.lst (((five.take i).map fun e => inR (e.ev (ρ5 f1 f2 o1 o2)).1 (e.ev (ρ5 f1 f2 o1 o2)).2 uv.1 uv.2).map V.bl))) ⟨same_new hD, upd_same⟩ (fun i H8 hi r => ?_) (fun H8 r => ?_)
          · obtain ⟨S8, hL⟩ := r
            refine tl_go (xs := as.map V.ref) (.inl (.inl (S8 _ _ (S27 _ _ hfl)))) (by rw [List.length_map, a5]; exact hi) (fun y hy => ?_)
            obtain ⟨a, e, ha, he, hem, rg⟩ := at5 hi
            rw [List.getElem?_map, ha] at hy
            obtain rfl := (Option.some.inj hy).symm
            have rg8 := (rg.same S27).same S8
            refine ⟨rfl, z, rfl, .ref a, rfl, a, rfl, rg8.ins, a, z, _, _, uv.1, uv.2, 8, rfl, rg8, dp_same S8 dz7, szx e hem, by decide, fun H9 S9 => ⟨_, rfl, ?_⟩⟩
            refine ⟨_, S9 _ _ hL, ?_, same_grow (S8.trans S9) hD, ?_⟩
            · rw [List.length_map, List.length_map, List.length_take]
              exact Nat.lt_of_le_of_lt (show _ ≤ 100 by omega) (by decide)
            · rw [upd_same, List.take_add_one, he, List.map_append, List.map_append, Bool.bne_false]
              rfl
          · obtain ⟨S8, hL⟩ := r
            have te := tl_end (K := K) (H := H8) (a := fl) (xs := as.map V.ref) (.inl (.inl (S8 _ _ (S27 _ _ hfl))))
            rw [List.length_map, a5] at te
            have ev : ((five.take 5).map fun e => inR (e.ev (ρ5 f1 f2 o1 o2)).1 (e.ev (ρ5 f1 f2 o1 o2)).2 uv.1 uv.2) = [l || rr, l && rr, l && !rr, l != rr, !l] := by
              have key : ∀ e ∈ five, inR (e.ev (ρ5 f1 f2 o1 o2)).1 (e.ev (ρ5 f1 f2 o1 o2)).2 uv.1 uv.2 = e.evB fun i => if i = 3 then l else rr := fun e he => by
                rw [RX.in_ uv.1 uv.2 (okx e he)]
                congr 1
                funext i
                unfold ρ5
                split
                · exact (in1 _ _).trans hl
                · exact (in2 _ _).trans hrr
              have : (five.take 5) = five := rfl
              rw [this]
              refine (List.map_congr_left key).trans ?_
              cases l <;> cases rr <;> rfl
            rw [ev] at hL
            refine ⟨te, .ref du, rfl, _, _, .lst (.inl (.inl hL)) (bools_dp _), .lst (.inl (.inl (S8 _ _ hdu))) (bools_dp _), bools_shaped _, bools_shaped _, _, rfl, ite2 (fun e => ?_) (fun _ => ⟨S8, rfl⟩)⟩
            rw [bools_eqv] at e
            cases e
        rintro _ H8 ⟨S8, rfl⟩
        refine andV ((sqs.take k).all fun q => (hasL b2 q.1 q.2 != o2) || !(hasL b1 q.1 q.2 != o1)) (rr || !l) (fun Q q => ⟨_, rfl, q⟩) (fun Q q => orV rr (!l) (fun Q q => ⟨_, rfl, q⟩) (fun Q q => ⟨_, rfl, l, rfl, q⟩) q) ?_
        refine ⟨some z, some (.ref du), some (.bl l), some (.bl rr), S5.trans ((S6.trans S7).trans S8), ?_⟩
        have e : ((sqs.take (k + 1)).all fun q => (hasL b2 q.1 q.2 != o2) || !(hasL b1 q.1 q.2 != o1)) = (((sqs.take k).all fun q => (hasL b2 q.1 q.2 != o2) || !(hasL b1 q.1 q.2 != o1)) && (rr || !l)) := by
          rw [List.take_add_one, huv, List.all_append, Option.toList_some, List.all_cons, List.all_nil, Bool.and_true, hl, hrr]
        rw [e]
        rfl
      · obtain ⟨o7, o8, o10, o11, S5, rfl⟩ := r
        have zl : zs.length = sqs.length := (dpAll_len dz).trans (List.length_map ..)
        refine ⟨tl_end (xs := zs) (.inl (.inl ((S13.trans S5) _ _ hpl))), o7, o8, o10, o11, S5, ?_⟩
        rw [zl, List.take_length]
    rintro _ H5 ⟨o7, o8, o10, o11, S5, rfl⟩
    generalize hin : (sqs.all fun q => (hasL b2 q.1 q.2 != o2) || !(hasL b1 q.1 q.2 != o1)) = inside
    have S15 := S13.trans S5
    have D1c := D1.same S15
    have D2c := D2.same S15
    -- bounded ones
    refine ⟨fun σ' H' => ∃ du, Same H5 H' ∧ H' du = some (.lst ([!(o1 || o2), !(o1 && o2), !o1 || o2, o1 == o2, o1].map V.bl)) ∧ σ' = [some (.ref r1), some (.ref r2), some (.ref pl), some (.ref g1), some (.ref g2), some (.ref fl), some (.bl inside), o7, some (.ref du), none, o10, o11, none], ?_, ?_⟩
    · have r1o : ∀ {Q : VK}, Q (.bl o1) H5 → (tOp (rIxL K) (tVar 0) (tC (.int 2))) [some (.ref r1), some (.ref r2), some (.ref pl), some (.ref g1), some (.ref g2), some (.ref fl), some (.bl inside), o7, o8, none, o10, o11, none] H5 Q := fun {Q} q => ⟨.ref r1, rfl, r1, _, 2, .bl o1, rfl, rfl, .inl (.inl D1c.at_), atI_nat (j := 2) rfl, q⟩
      have r2o : ∀ {Q : VK}, Q (.bl o2) H5 → (tOp (rIxL K) (tVar 1) (tC (.int 2))) [some (.ref r1), some (.ref r2), some (.ref pl), some (.ref g1), some (.ref g2), some (.ref fl), some (.bl inside), o7, o8, none, o10, o11, none] H5 Q := fun {Q} q => ⟨.ref r2, rfl, r2, _, 2, .bl o2, rfl, rfl, .inl (.inl D2c.at_), atI_nat (j := 2) rfl, q⟩
      refine orV o1 o2 (fun Q q => r1o q) (fun Q q => r2o q) ⟨_, rfl, ?_⟩
      refine andV o1 o2 (fun Q q => r1o q) (fun Q q => r2o q) ⟨_, rfl, ?_⟩
      refine orV (!o1) o2 (fun Q q => r1o ⟨_, rfl, q⟩) (fun Q q => r2o q) ?_
      refine r1o (r2o ⟨rfl, r1o ⟨(by show 5 ≤ sizeLine; decide), fun du hdu => ⟨du, same_new hdu, ?_, rfl⟩⟩⟩)
      rw [upd_same, show V.bl (decide (V.bl o1 = V.bl o2)) = V.bl (o1 == o2) by cases o1 <;> cases o2 <;> rfl]
      rfl
    rintro _ H6 ⟨du, S6, hdu, rfl⟩
    have S26 := (S3.trans S5).trans S6
    refine ⟨fun σ' H' => Same H6 H' ∧ σ' = [some (.ref r1), some (.ref r2), some (.ref pl), some (.ref g1), some (.ref g2), some (.ref fl), some (.bl inside), o7, some (.ref du), none, o10, o11, none], ?_, ?_⟩
    · refine ⟨.ref fl, rfl, fl, rfl, ⟨_, .inl (.inl (S26 _ _ hfl))⟩, fun D hD => ?_⟩
      refine wk 5 (fun i H' => Same H6 H' ∧ H' D = some (.lst (((five.take i).map fun e => (e.ev (ρ5 f1 f2 o1 o2)).2).map V.bl))) ⟨same_new hD, upd_same⟩ (fun i H8 hi r => ?_) (fun H8 r => ?_)
      · obtain ⟨S8, hL⟩ := r
        refine tl_go (xs := as.map V.ref) (.inl (.inl (S8 _ _ (S26 _ _ hfl)))) (by rw [List.length_map, a5]; exact hi) (fun y hy => ?_)
        obtain ⟨a, e, ha, he, hem, rg⟩ := at5 hi
        rw [List.getElem?_map, ha] at hy
        obtain rfl := (Option.some.inj hy).symm
        have rg8 := (rg.same S26).same S8
        obtain ⟨dx, v, eX, dv⟩ := id rg8
        refine ⟨rfl, .ref a, rfl, a, dx, _, rfl, eX, a, _, _, rfl, rg8, ?_⟩
        refine ⟨_, hL, ?_, same_grow S8 hD, ?_⟩
        · rw [List.length_map, List.length_map, List.length_take]
          exact Nat.lt_of_le_of_lt (show _ ≤ 100 by omega) (by decide)
        · rw [upd_same, List.take_add_one, he, List.map_append, List.map_append]
          rfl
      · obtain ⟨S8, hL⟩ := r
        have te := tl_end (K := K) (H := H8) (a := fl) (xs := as.map V.ref) (.inl (.inl (S8 _ _ (S26 _ _ hfl))))
        rw [List.length_map, a5] at te
        have ev : ((five.take 5).map fun e => (e.ev (ρ5 f1 f2 o1 o2)).2) = [!(o1 || o2), !(o1 && o2), !o1 || o2, o1 == o2, o1] := by
          show five.map _ = _
          cases o1 <;> cases o2 <;> rfl
        rw [ev] at hL
        refine ⟨te, .ref du, rfl, _, _, .lst (.inl (.inl hL)) (bools_dp _), .lst (.inl (.inl (S8 _ _ hdu))) (bools_dp _), bools_shaped _, bools_shaped _, _, rfl, ite2 (fun e => ?_) (fun _ => ⟨S8, rfl⟩)⟩
        rw [bools_eqv] at e
        cases e
    rintro _ H7 ⟨S7, rfl⟩
    have S17 := S15.trans (S6.trans S7)
    have D1d := D1.same S17
    have D2d := D2.same S17
    -- some
    refine ⟨fun σ' H' => Same H7 H' ∧ σ' = [some (.ref r1), some (.ref r2), some (.ref pl), some (.ref g1), some (.ref g2), some (.ref fl), some (.bl inside), o7, some (.ref du), some (.bl (sqs.any fun q => hasL b1 q.1 q.2 != o1)), o10, o11, none], ?_, ?_⟩
    · refine ⟨.ref pl, rfl, pl, rfl, ⟨_, .inl (.inl (S17 _ _ hpl))⟩, fun D hD => ?_⟩
      refine wk zs.length (fun i H' => Same H7 H' ∧ ∃ ws, H' D = some (.lst ws) ∧ DpAll K H7 ws (((sqs.take i).filter fun q => hasL b1 q.1 q.2 != o1).map encP)) ⟨same_new hD, [], upd_same, .nil⟩ (fun i H8 hi r => ?_) (fun H8 r => ?_)
      · obtain ⟨S8, ws, hL, dw⟩ := r
        refine tl_go (xs := zs) (.inl (.inl (S8 _ _ (S17 _ _ hpl)))) hi (fun z hz => ?_)
        obtain ⟨d, hd1, hd2⟩ := dpAll_get dz hz
        rw [List.getElem?_map] at hd1
        obtain ⟨uv, huv, rfl⟩ := Option.map_eq_some_iff.mp hd1
        have dz7 := dp_same S17 hd2
        have et : (sqs.take (i + 1)).filter (fun q => hasL b1 q.1 q.2 != o1) = (sqs.take i).filter (fun q => hasL b1 q.1 q.2 != o1) ++ [uv].filter (fun q => hasL b1 q.1 q.2 != o1) := by
          rw [List.take_add_one, huv, List.filter_append]
          rfl
        have wl : ws.length ≤ 1000 := by
          rw [dpAll_len dw, List.length_map]
          have := List.length_filter_le (fun q : Int × Int => hasL b1 q.1 q.2 != o1) (sqs.take i)
          rw [List.length_take] at this
          omega
        refine ⟨rfl, .ref r1, rfl, z, rfl, r1, l1, _, z, us1, b1, o1, uv.1, uv.2, rfl, S8 _ _ D1d.at_, .inl (.inl (S8 _ _ D1d.hl)), (bxA_same S8 D1d.bx).dp, by have := D1.few; omega, dp_same S8 dz7, fun H9 S9 => ⟨_, rfl, ite2 (fun e => ?_) (fun e => ?_)⟩⟩
        · refine ⟨z, rfl, ws, S9 _ _ hL, Nat.lt_of_le_of_lt wl (by decide), same_grow (S8.trans S9) hD, ws ++ [z], upd_same, ?_⟩
          rw [et, List.filter_cons, e, List.map_append]
          exact dpAll_app dw (.cons dz7 .nil)
        · refine ⟨S8.trans S9, ws, S9 _ _ hL, ?_⟩
          rw [et, List.filter_cons, eq_false_of_ne_true' e]
          simpa using dw
      · obtain ⟨S8, ws, hL, dw⟩ := r
        have zl : zs.length = sqs.length := (dpAll_len dz).trans (List.length_map ..)
        rw [zl, List.take_length] at dw
        refine ⟨tl_end (xs := zs) (.inl (.inl (S8 _ _ (S17 _ _ hpl)))), Nat.zero_le _, fun e he => ?_⟩
        have S9 := same_new (o := .lst []) he
        refine ⟨_, .list [], .lst (.inl (.inl (S9 _ _ hL))) (dpAll_same (S8.trans S9) dw), emp upd_same, shaped_prs _, shn, S8.trans S9, ?_⟩
        have ev : (!PyData.eqv (.list ((sqs.filter fun q => hasL b1 q.1 q.2 != o1).map encP)) (.list [])) = sqs.any fun q => hasL b1 q.1 q.2 != o1 := by
          rw [eqv_nil]
          exact filter_any _ _
        exact congrArg (fun b => [some (.ref r1), some (.ref r2), some (.ref pl), some (.ref g1), some (.ref g2), some (.ref fl), some (V.bl inside), o7, some (V.ref du), some (V.bl b), o10, o11, none]) ev
    rintro _ H8 ⟨S8, rfl⟩
    have S18 := S17.trans S8
    have D1e := D1.same S18
    have D2e := D2.same S18
    obtain ⟨dx, v, eX, dv⟩ := id D1e.rg
    have shown := fun l : List Bool => fun h => bools_show l h
    refine ⟨.ref g1, rfl, g1, dx, _, rfl, eX, rf_no _ _ (by decide +kernel) (by decide +kernel), .ref g2, rfl, g1, g2, f1, !o1, f2, !o2, 4, 4, rfl, D1e.rg, D2e.rg, D1.sz, D2.sz, by decide, by decide, fun H9 S9 => ?_⟩
    generalize hw : (!anyR (combF (kTurn kSub (!o1) (!o2)) f1 f2) (!kSub (!!o1) (!!o2))) = wi
    refine ⟨.ref g1, rfl, g1, rfl, (D1e.rg.same S9).ins, g1, f1, !o1, rfl, D1e.rg.same S9, _, rfl, ?_⟩
    refine ⟨.ref g1, rfl, g1, dx, _, rfl, S9 _ _ eX, g1, f1, !o1, rfl, D1e.rg.same S9, (by show 3 ≤ sizeLine; decide), fun t1 ht1 => ?_⟩
    have s3 := bools_show [wi, anyR f1 (!o1), !o1] (by show 3 ≤ 100; decide)
    refine ⟨.ref t1, .list ([wi, anyR f1 (!o1), !o1].map PyData.bool), rfl, .lst (.inl (.inl upd_same)) (bools_dp [wi, anyR f1 (!o1), !o1]), s3.1, s3.2.1, s3.2.2, ?_⟩
    have S10 := S9.trans (same_new (o := .lst [V.bl wi, .bl (anyR f1 (!o1)), .bl (!o1)]) ht1)
    have e1 : wi = inside := by
      rw [Bool.eq_iff_iff, ← hw, within_iff D1.sz D2.sz, ← hin, List.all_eq_true]
      constructor
      · intro h qq hq
        have := h qq.1 qq.2
        rw [in1, in2] at this
        revert this
        cases (hasL b1 qq.1 qq.2 != o1) <;> cases (hasL b2 qq.1 qq.2 != o2) <;> decide
      · intro h x y
        rw [in1, in2]
        obtain ⟨pp, hp, qq, hq, rep⟩ := probe_rep ux uy x1 y1 x y
        rw [rep b1 D1.og, rep b2 D2.og]
        have := h (pp, qq) (mem pp hp qq hq)
        revert this
        cases (hasL b1 pp qq != o1) <;> cases (hasL b2 pp qq != o2) <;> decide
    have e2 : anyR f1 (!o1) = sqs.any fun q => hasL b1 q.1 q.2 != o1 := by
      rw [Bool.eq_iff_iff, ← Bool.not_eq_false, ← Bool.not_eq_false, anyR_iff D1.sz.ok, List.any_eq_false]
      refine not_congr ?_
      constructor
      · intro h qq _
        have := h qq.1 qq.2
        rw [in1] at this
        rw [this]
        decide
      · intro h x y
        rw [in1]
        obtain ⟨pp, hp, qq, hq, rep⟩ := probe_rep ux uy x1 y1 x y
        rw [rep b1 D1.og]
        have := h (pp, qq) (mem pp hp qq hq)
        exact eq_false_of_ne_true' this
    have D1f := D1e.same S10
    refine ⟨.bl inside, rfl, .bl _, rfl, .ref r1, rfl, r1, _, 2, .bl o1, rfl, rfl, .inl (.inl D1f.at_), atI_nat (j := 2) rfl, o1, rfl, (by show 3 ≤ sizeLine; decide), fun t2 ht2 => ?_⟩
    have s4 := bools_show [inside, sqs.any fun q => hasL b1 q.1 q.2 != o1, !o1] (by show 3 ≤ 100; decide)
    refine ⟨.ref t2, .list ([inside, sqs.any fun q => hasL b1 q.1 q.2 != o1, !o1].map PyData.bool), rfl, .lst (.inl (.inl upd_same)) (bools_dp [inside, sqs.any fun q => hasL b1 q.1 q.2 != o1, !o1]), s4.1, s4.2.1, s4.2.2, rfl, ?_⟩
    have et : (PyData.list ([wi, anyR f1 (!o1), !o1].map PyData.bool)).shown = (PyData.list ([inside, sqs.any fun q => hasL b1 q.1 q.2 != o1, !o1].map PyData.bool)).shown := by rw [e1, e2]
    rw [et, decide_eq_true rfl]
    exact q _ (S18.trans (S10.trans (same_new ht2)))
end
end Vf

set_option Elab.async false
/-! Only the library's module. -/

set_option Elab.async false
set_option linter.all false
set_option maxRecDepth 100000
set_option exponentiation.threshold 3000
/-! Law k05. -/
namespace Vf
open PySem PySem.Spec PyProof.Rows L2
open C8 (pss_cut tCut)
open Fm (Spans Form Slab Keep)
theorem scLaw : FnScope ["_law_script", "_law_k", "_law_pool_here", "_law_xs", "_law_ys", "_law_one", "_law_other", "_law_third", "_law_seen", "_law_probes_here", "_law_region", "_law_boxes_here", "_law_is_out", "_law_turn"] ["_law_script"] (defScope sLaw) := ⟨rfl, rfl, rfl, by decide +kernel, rfl, by decide +kernel, by decide +kernel⟩
theorem Dr.fits {K : PySem.W.Frag} {C : Addr} {H : Hp} {xs ys : List Int} {r g l : Addr} {us : List V} {bs : List Bx} {f : Form} {o : Bool} (d : Dr K C H xs ys r g l us bs f o) (bxx : ∀ n ∈ xs, Big 11 n) (byy : ∀ n ∈ ys, Big 11 n) : Fits f := by
  refine ⟨?_, bs.length, d.io.1, by have := d.few; omega⟩
  rw [isOf_form d.ok d.io]
  exact inC_formB d.ok fun b hb => ⟨big_sm (bxx _ (d.og b hb).1), big_sm (bxx _ (d.og b hb).2.1), big_sm (byy _ (d.og b hb).2.2.1), big_sm (byy _ (d.og b hb).2.2.2.1)⟩
theorem text_three {a b c : PySem.Str} (ha : a.length ≤ 1000100) (hb : b.length ≤ 1000100) (hc : c.length ≤ 1000100) : (listText [a, b, c]).length ≤ sizeLine := by
  have h := listText_len_le [a, b, c]
  have big : 4000000 ≤ sizeLine := by decide
  simp only [List.map_cons, List.map_nil, List.sum_cons, List.sum_nil, List.length_cons, List.length_nil] at h
  omega
section
variable {P : Program} {w : World} {K : PySem.W.Frag} {mg : Str → Option Value} {base : Heap}
set_option maxHeartbeats 1000000 in
theorem ok_law {fl C fP fT fL fW fD fR fA pS gS gQ gRp : Addr} {fd dP dT dL dW dD dR dA dS dRp : FuncData} {n : Nat} (F : Fun K "law" "law" sLaw fl fd) (R : ROps P w K mg base C n) (RQ : REq K C)
    (GP : FnOk P w K mg base CX0 n fP dP ["_law_script", "_law_k"] (spPool K)) (kP : PySem.W.keepIn K (.ref fP) = true) (bP : Binds K dP ["_law_script", "_law_k"] []) (gP : mg "_law_pool" = some (.ref fP))
    (GT : FnOk P w K mg base CX0 n fT dT ["_law_pool_here", "_law_sides"] (spTake K)) (kT : PySem.W.keepIn K (.ref fT) = true) (bT : Binds K dT ["_law_pool_here", "_law_sides"] []) (gT : mg "_law_take" = some (.ref fT))
    (GL : FnOk P w K mg base CX0 n fL dL ["_law_pool_here", "_law_many"] (spLines K)) (kL : PySem.W.keepIn K (.ref fL) = true) (bL : Binds K dL ["_law_pool_here", "_law_many"] []) (gL : mg "_law_lines" = some (.ref fL))
    (GW : FnOk P w K mg base CX0 n fW dW ["_law_xs", "_law_ys"] (spProbes K)) (kW : PySem.W.keepIn K (.ref fW) = true) (bW : Binds K dW ["_law_xs", "_law_ys"] []) (gW : mg "_law_probes" = some (.ref fW))
    (GD : FnOk P w K mg base CX0 n fD dD ["_law_pool_here", "_law_xs", "_law_ys"] (spDr K C)) (kD : PySem.W.keepIn K (.ref fD) = true) (bD : Binds K dD ["_law_pool_here", "_law_xs", "_law_ys"] []) (gD : mg "_law_drawn" = some (.ref fD))
    (GA : FnOk P w K mg base CX0 n fA dA ["_law_a", "_law_b", "_law_c"] (spAlike K C)) (kA : PySem.W.keepIn K (.ref fA) = true) (bA : Binds K dA ["_law_a", "_law_b", "_law_c"] []) (gA : mg "_law_alike" = some (.ref fA))
    (GR : FnG P w K mg base CX0 (n + 4) fR dR ["_law_one", "_law_other", "_law_probes_here"] (spRight5 K C)) (kR : PySem.W.keepIn K (.ref fR) = true) (bR : Binds K dR ["_law_one", "_law_other", "_law_probes_here"] []) (gR : mg "_law_right" = some (.ref fR))
    (PS : PropOf K C "slabs" pS gS) (GSl : FnOk P w K mg base CX0 n gS dS ["self"] (spSlabs K C)) (bSl : Binds K dS ["self"] [])
    (OE : Own K C "__eq__" gQ) (GE' : FnR P w K mg base CX0 n gQ (spEqR K C)) (GQx : FnR P w K mg base CX0 n gQ (spEqX K C))
    (OP : Own K C "__repr__" gRp) (GP1 : FnG P w K mg base CX0 n gRp dRp ["self"] (spRepr K C)) (GPd : ∀ d : Addr, FnD (some d) P w K mg base CX0 n gRp dRp ["self"] (spReprD (some d) K C)) (bPd : Binds K dRp ["self"] [])
    (m_range : mg "range" = none) (m_max : mg "max" = none) (m_min : mg "min" = none) (m_len : mg "len" = none) (m_repr : mg "repr" = none) (m_int : mg "int" = none) : FnG P w K mg base CX0 (n + 5) fl fd ["_law_script"] (spLaw K) := by
  have nd := scLaw.nd
  have T := R.txt
  have sf := R.sf
  obtain ⟨g5', OI, GI⟩ := R.inv_
  refine okG F scLaw (fun {vs H Q E} h => ?_) (fun cdv A outer st H vs Q E gA0 hr h => ?_)
  · obtain ⟨a, ns, rfl, _⟩ := h
    rfl
  · obtain ⟨a, ns, rfl, ha, sz, q⟩ := h
    have h0 : Room n (A.deeper (envOfC "law" (defScope sLaw) st.heap.objs.size fl cdv)) := hr.mono (by omega)
    have h1 : Room (n + 1) (A.deeper (envOfC "law" (defScope sLaw) st.heap.objs.size fl cdv)) := hr.mono (by omega)
    have h3 : Room (n + 3) (A.deeper (envOfC "law" (defScope sLaw) st.heap.objs.size fl cdv)) := hr.mono (by omega)
    have h4 : Room (n + 4) (A.deeper (envOfC "law" (defScope sLaw) st.heap.objs.size fl cdv)) := hr
    have gd : (A.deeper (envOfC "law" (defScope sLaw) st.heap.objs.size fl cdv)).guards = some [] := gA0
    refine ⟨_, (pss_cut (ps_for PassesOwn.never rfl (pi_range1 (by rfl) m_range (pa_cons (pe_callB (call_max2 rfl) (by rfl) m_max (by decide +kernel) (pa_cons pe_int (pa_cons (pe_callB (call_min2 rfl) (by rfl) m_min (by decide +kernel) (pa_cons (pe_callB call_len_seq (by rfl) m_len PySem.boot_len (pa_cons (pv 0) pa_nil)) (pa_cons pe_int pa_nil))) pa_nil))) pa_nil)) (pg_name (i := 1) nd rfl (Or.inl rfl))
  (pss_cut (ps_set (i := 2) nd rfl (Or.inr rfl) (pe_call GP h0 (by rfl) gP kP bP .nil pass0 (pa_cons (pv 0) (pa_cons (pv 1) pa_nil))))
  (pss_cut (ps_asg (pe_tup (pa_cons (pe_call GL h0 (by rfl) gL kL bL .nil pass0 (pa_cons (pv 2) (pa_cons (pe_op op_add pe_int (pe_call GT h0 (by rfl) gT kT bT .nil pass0 (pa_cons (pv 2) (pa_cons pe_int pa_nil)))) pa_nil))) (pa_cons (pe_call GL h0 (by rfl) gL kL bL .nil pass0 (pa_cons (pv 2) (pa_cons (pe_op op_add pe_int (pe_call GT h0 (by rfl) gT kT bT .nil pass0 (pa_cons (pv 2) (pa_cons pe_int pa_nil)))) pa_nil))) pa_nil))) (pg_tup (by rfl) (pgs_cons (pg_name (i := 3) nd rfl (Or.inr rfl)) (pgs_cons (pg_name (i := 4) nd rfl (Or.inr rfl)) pgs_nil))))
  (pss_cut (ps_asg (pe_lc (own := [("_law_turn", 13)]) (g := (gName 13)) (tt := tYes) rfl nd (pi_range1 (by rfl) m_range (pa_cons pe_int pa_nil)) (blkOk_by (N := ["_law_script", "_law_k", "_law_pool_here", "_law_xs", "_law_ys", "_law_one", "_law_other", "_law_third", "_law_seen", "_law_probes_here", "_law_region", "_law_boxes_here", "_law_is_out", "_law_turn"]) (sc := defScope sLaw) (by decide +kernel)) (fun _ _ _ _ _ => (pg_name (i := 13) nd rfl (Or.inl rfl))) (fun _ _ _ _ _ => pts_nil) (fun _ _ _ _ _ => (pe_call GD h0 (by rfl) gD kD bD .nil pass0 (pa_cons (pv 2) (pa_cons (pv 3) (pa_cons (pv 4) pa_nil)))))) (pg_lst (by rfl) (pgs_cons (pg_name (i := 5) nd rfl (Or.inl rfl)) (pgs_cons (pg_name (i := 6) nd rfl (Or.inl rfl)) (pgs_cons (pg_name (i := 7) nd rfl (Or.inl rfl)) pgs_nil)))))
  (pss_cut (ps_set (i := 8) nd rfl (Or.inl rfl) (pe_callB (call_repr_listO OP GPd bPd gd h3 pass0 (fun _ => showR)) (by rfl) m_repr (by decide +kernel) (pa_cons (pe_lst (pa_cons (pe_ix ix_list (pv 5) pe_int (fun _ _ => rfl)) (pa_cons (pe_ix ix_list (pv 6) pe_int (fun _ _ => rfl)) (pa_cons (pe_ix ix_list (pv 7) pe_int (fun _ _ => rfl)) pa_nil)))) pa_nil)))
  (pss_cut (ps_set (i := 9) nd rfl (Or.inl rfl) (pe_call GW h0 (by rfl) gW kW bW .nil pass0 (pa_cons (pv 3) (pa_cons (pv 4) pa_nil))))
  (pss_cut (ps_if (PW.pt (pw_or (pt_not (pt_val (pe_callG GR gd h4 (by rfl) gR kR bR .nil pass0 (pa_cons (pv 5) (pa_cons (pv 6) (pa_cons (pv 9) pa_nil)))))) (pw_or1 (pt_not (pt_val (pe_callG GR gd h4 (by rfl) gR kR bR .nil pass0 (pa_cons (pv 6) (pa_cons (pv 7) (pa_cons (pv 9) pa_nil)))))))))
  (pss_one (ps_ret pe_bl))
  pss_nil)
  (pss_cut (ps_if (PW.pt (pw_or (pt_not (pt_val (pe_call GA h0 (by rfl) gA kA bA .nil pass0 (pa_cons (pe_ix ix_list (pv 5) pe_int (fun _ _ => rfl)) (pa_cons (pe_ix ix_list (pv 6) pe_int (fun _ _ => rfl)) (pa_cons (pe_ix ix_list (pv 7) pe_int (fun _ _ => rfl)) pa_nil)))))) (pw_or1 (pt_cmpR op_ne (pe_callB (call_repr_listO OP GPd bPd gd h3 pass0 (fun _ => showR)) (by rfl) m_repr (by decide +kernel) (pa_cons (pe_lst (pa_cons (pe_ix ix_list (pv 5) pe_int (fun _ _ => rfl)) (pa_cons (pe_ix ix_list (pv 6) pe_int (fun _ _ => rfl)) (pa_cons (pe_ix ix_list (pv 7) pe_int (fun _ _ => rfl)) pa_nil)))) pa_nil)) (pv 8) (nomark _)))))
  (pss_one (ps_ret pe_bl))
  pss_nil)
  (pss_one (ps_for PassesOwn.never rfl (pi_list (pe_lst (pa_cons (pv 5) (pa_cons (pv 6) pa_nil)))) (pg_lst (by rfl) (pgs_cons (pg_name (i := 10) nd rfl (Or.inl rfl)) (pgs_cons (pg_name (i := 11) nd rfl (Or.inl rfl)) (pgs_cons (pg_name (i := 12) nd rfl (Or.inl rfl)) pgs_nil))))
  (pss_cut (ps_if (pt_cmpR op_ne (pe_callB (call_repr_own OP GP1 bPd gd h1 pass0) (by rfl) m_repr (by decide +kernel) (pa_cons (pv 10) pa_nil)) (pe_op op_add_str (pe_op op_add_str (pe_op op_add_str (pe_ix ix_list (pe_lst (pa_cons pe_str (pa_cons pe_str pa_nil))) (pe_callTy call_int1 (by rfl) m_int (by decide +kernel) (pa_cons (pv 12) pa_nil)) (fun _ _ => rfl)) pe_str) (pe_callB (call_repr gd hr.units) (by rfl) m_repr (by decide +kernel) (pa_cons (pe_prop (pv 10) T.cl PS GSl h1 bSl .nil pass0 rfl) pa_nil))) pe_str) (nomark _))
  (pss_one (ps_ret pe_bl))
  pss_nil)
  (pss_one (ps_if (PW.pt (pw_or (pt_cmpR (op_eqX OE RQ GQx h0 pass0) (pv 10) (pe_prop (pv 10) T.cl PS GSl h1 bSl .nil pass0 rfl) (nomark _)) (pw_or (pt_cmpR (op_neD hr.units) (pe_prop (pv 10) T.cl PS GSl h1 bSl .nil pass0 rfl) (pe_prop (pe_un (un_invO OI GI h0 pass0) (pv 10)) T.cl PS GSl h1 bSl .nil pass0 rfl) (nomark _)) (pw_or1 (pt_cmpR (op_eqO OE GE' h0 pass0) (pv 10) (pe_un (un_invO OI GI h0 pass0) (pv 10)) (nomark _))))))
  (pss_one (ps_ret pe_bl))
  pss_nil)))))))))))))
  (pss_one (ps_ret pe_bl))), ?_⟩
    refine ⟨fun σ' H' => ∃ o1 o2 o3 o4 o5 o6 o7 o8 o9 o10 o11 o12 o13, σ' = [some (.ref a), o1, o2, o3, o4, o5, o6, o7, o8, o9, o10, o11, o12, o13], ?_, ?_⟩
    · refine ⟨.ref a, rfl, a, _, rfl, .inl ha, _, _, rfl, _, _, rfl, turns4 ((ns.map V.int).length : Int), rfl, ?_, ?_, wkS (turns4 ((ns.map V.int).length : Int)).toNat (fun i σ H' => Same H H' ∧ ∃ o1 o2 o3 o4 o5 o6 o7 o8 o9 o10 o11 o12 o13, σ = [some (.ref a), o1, o2, o3, o4, o5, o6, o7, o8, o9, o10, o11, o12, o13]) ⟨fun _ _ e => e, none, none, none, none, none, none, none, none, none, none, none, none, none, rfl⟩ (fun i σ H1 hi r => ?_) (fun σ H1 r => ⟨tr_end, r.2⟩)⟩
      · have := turns4_in ((ns.map V.int).length : Int)
        omega
      · have := turns4_in ((ns.map V.int).length : Int)
        omega
      obtain ⟨S1, o1, o2, o3, o4, o5, o6, o7, o8, o9, o10, o11, o12, o13, rfl⟩ := r
      have i4 : i < 4 := by
        have := turns4_in ((ns.map V.int).length : Int)
        omega
      refine tr_go hi ?_
      -- the pool
      refine ⟨fun σ' H' => ∃ p, H1 p = none ∧ Same H1 H' ∧ Pool H' p ∧ σ' = [some (.ref a), some (.int (0 + (i : Int))), some (.ref p), o3, o4, o5, o6, o7, o8, o9, o10, o11, o12, o13], ⟨.ref a, rfl, .int (0 + (i : Int)), rfl, a, ns, 0 + (i : Int), rfl, S1.seq ha, by omega, by omega, by omega, fun p o hp P2 => ⟨p, hp, same_new hp, P2, rfl⟩⟩, ?_⟩
      rintro _ H2 ⟨p, p0, S2, P2, rfl⟩
      have out : ∀ {H'}, But p H2 H' → Same H1 H' := fun {H'} B c u e => B c u (ne_of_none e p0) (S2 c u e)
      -- the lines
      refine ⟨fun σ' H' => ∃ (x y : Addr) (xs ys : List Int), But p H2 H' ∧ Pool H' p ∧ x ≠ p ∧ y ≠ p ∧ H' x = some (.lst (xs.map V.int)) ∧ H' y = some (.lst (ys.map V.int)) ∧ 2 ≤ xs.length ∧ xs.length ≤ 10 ∧ 2 ≤ ys.length ∧ ys.length ≤ 10 ∧ Fm.Up xs ∧ Fm.Up ys ∧ (∀ n ∈ xs, Big 11 n) ∧ (∀ n ∈ ys, Big 11 n) ∧ σ' = [some (.ref a), some (.int (0 + (i : Int))), some (.ref p), some (.ref x), some (.ref y), o5, o6, o7, o8, o9, o10, o11, o12, o13], ?_, ?_⟩
      · refine ⟨.ref p, rfl, .ref p, rfl, p, 5, rfl, P2, by decide, by decide, fun v o v0 v1 P3 => ?_⟩
        have B3 : But p H2 (upd H2 p o) := But.at
        generalize upd H2 p o = H3 at P3 B3
        obtain ⟨j, rfl⟩ : ∃ j : Nat, v = j := ⟨v.toNat, by omega⟩
        refine ⟨2, _, rfl, rfl, p, 2 + j, (by rw [Int.natCast_add]; rfl), P3, by omega, by omega, fun H4 x xs B4 P4 xn hx xl ux bx => ?_⟩
        have xp : x ≠ p := pool_ne P3 xn
        refine ⟨.ref p, rfl, .ref p, rfl, p, 5, rfl, P4, by decide, by decide, fun v o v0 v1 P5 => ?_⟩
        have B5 : But p H4 (upd H4 p o) := But.at
        have hx5 : upd H4 p o x = some (.lst (xs.map V.int)) := by rw [upd_ne xp]; exact hx
        generalize upd H4 p o = H5 at P5 B5 hx5
        obtain ⟨k, rfl⟩ : ∃ k : Nat, v = k := ⟨v.toNat, by omega⟩
        refine ⟨2, _, rfl, rfl, p, 2 + k, (by rw [Int.natCast_add]; rfl), P5, by omega, by omega, fun H6 y ys B6 P6 yn hy yl uy by' => ?_⟩
        refine ⟨(by show 2 ≤ sizeLine; decide), fun t ht => ?_⟩
        have S7 := same_new (o := .tup [.ref x, .ref y]) ht
        refine ⟨t, _, rfl, .inl (.inl upd_same), rfl, _, _, rfl, _, _, rfl, rfl, x, y, xs, ys, ((((B3.trans B4).trans B5).trans B6).trans (But.of S7)), pool_same P6 S7, xp, pool_ne P5 yn, S7 _ _ (B6 _ _ xp hx5), S7 _ _ hy, by omega, by omega, by omega, by omega, ux, uy, bx, by', rfl⟩
      rintro _ H3 ⟨x, y, xs, ys, B3, P3, xp, yp, hx, hy, x2, x9, y2, y9, ux, uy, bxx, byy, rfl⟩
      -- three regions
      refine ⟨fun σ' H' => ∃ (r1 r2 r3 g1 g2 g3 l1 l2 l3 : Addr) (us1 us2 us3 : List V) (b1 b2 b3 : List Bx) (f1 f2 f3 : Form) (e1 e2 e3 : Bool), But p H3 H' ∧ Dr K C H' xs ys r1 g1 l1 us1 b1 f1 e1 ∧ Dr K C H' xs ys r2 g2 l2 us2 b2 f2 e2 ∧ Dr K C H' xs ys r3 g3 l3 us3 b3 f3 e3 ∧ σ' = [some (.ref a), some (.int (0 + (i : Int))), some (.ref p), some (.ref x), some (.ref y), some (.ref r1), some (.ref r2), some (.ref r3), o8, o9, o10, o11, o12, o13], ?_, ?_⟩
      · refine ⟨3, rfl, by decide, by decide, fun D hD => ?_⟩
        have inv0 : ∀ (i : Nat) (H' : Hp), (∃ L : List (Addr × Addr × Addr × List V × List Bx × Form × Bool), True) := fun _ _ => ⟨[], trivial⟩
        refine wk 3 (fun i H' => But p H3 H' ∧ Pool H' p ∧ ∃ L : List (Addr × Addr × Addr × List V × List Bx × Form × Bool), L.length = i ∧ H' D = some (.lst (L.map fun t => V.ref t.1)) ∧ ∀ t ∈ L, t.1 ≠ p ∧ t.2.2.1 ≠ p ∧ t.1 ≠ D ∧ t.2.2.1 ≠ D ∧ Dr K C H' xs ys t.1 t.2.1 t.2.2.1 t.2.2.2.1 t.2.2.2.2.1 t.2.2.2.2.2.1 t.2.2.2.2.2.2) ⟨But.of (same_new hD), pool_same P3 (same_new hD), [], rfl, upd_same, fun _ h => nomatch h⟩ (fun i H4 hi r => ?_) (fun H4 r => ?_)
        · obtain ⟨B4, P4, L, Ll, hL, dr⟩ := r
          have Dp' : D ≠ p := fun z => by subst z; obtain ⟨_, _, e, _⟩ := P3; rw [e] at hD; cases hD
          refine tr_go hi ?_
          refine ⟨rfl, .ref p, rfl, .ref x, rfl, .ref y, rfl, p, x, y, xs, ys, rfl, P4, .inl (.inl (B4 _ _ xp hx)), .inl (.inl (B4 _ _ yp hy)), xp, yp, x2, x9, y2, y9, ux, uy, fun H5 r g l us bs f o B5 P5 rp lp rn ln d => ?_⟩
          have rD : r ≠ D := fun z => by subst z; rw [hL] at rn; cases rn
          have lD : l ≠ D := fun z => by subst z; rw [hL] at ln; cases ln
          have hL5 := B5 _ _ Dp' hL
          have B6 : But D H5 (upd H5 D (.lst (L.map (fun t => V.ref t.1) ++ [.ref r]))) := But.at
          refine ⟨_, hL5, ?_, ?_, ?_, L ++ [(r, g, l, us, bs, f, o)], by rw [List.length_append, Ll]; rfl, ?_, fun t ht => ?_⟩
          · rw [List.length_map, Ll]
            exact Nat.lt_of_le_of_lt (show i ≤ 3 by omega) (by decide)
          · intro c u nc e
            rw [upd_ne (ne_of_none e hD)]
            exact B5 _ _ nc (B4 _ _ nc e)
          · exact pool_same' Dp' P5
          · rw [upd_same, List.map_append]
            rfl
          · obtain ⟨z1, z2, ez, _⟩ := id P4
            rcases List.mem_append.mp ht with ht | ht
            · obtain ⟨q1, q2, q3, q4, q5⟩ := dr t ht
              exact ⟨q1, q2, q3, q4, (q5.but ez q1 q2 B5).but hL5 q3 q4 B6⟩
            · rw [List.mem_singleton] at ht
              subst ht
              exact ⟨rp, lp, rD, lD, d.but hL5 rD lD B6⟩
        · obtain ⟨B4, P4, L, Ll, hL, dr⟩ := r
          match L, Ll with
          | [t1, t2, t3], _ =>
          have d1 := (dr t1 (by simp)).2.2.2.2
          have d2 := (dr t2 (by simp)).2.2.2.2
          have d3 := (dr t3 (by simp)).2.2.2.2
          exact ⟨tr_end, D, _, rfl, .inl (.inl hL), rfl, _, _, rfl, _, _, rfl, _, _, rfl, rfl, t1.1, t2.1, t3.1, t1.2.1, t2.2.1, t3.2.1, t1.2.2.1, t2.2.2.1, t3.2.2.1, t1.2.2.2.1, t2.2.2.2.1, t3.2.2.2.1, t1.2.2.2.2.1, t2.2.2.2.2.1, t3.2.2.2.2.1, t1.2.2.2.2.2.1, t2.2.2.2.2.2.1, t3.2.2.2.2.2.1, t1.2.2.2.2.2.2, t2.2.2.2.2.2.2, t3.2.2.2.2.2.2, B4, d1, d2, d3, rfl⟩
      rintro _ H4 ⟨r1, r2, r3, g1, g2, g3, l1, l2, l3, us1, us2, us3, b1, b2, b3, f1, f2, f3, e1, e2, e3, B4, D1, D2, D3, rfl⟩
      have w1 := D1.fits bxx byy
      have w2 := D2.fits bxx byy
      have w3 := D3.fits bxx byy
      have tx := text_three (fits_text (b := !e1) w1) (fits_text (b := !e2) w2) (fits_text (b := !e3) w3)
      -- the list of them, shown
      have it3 : ∀ {G : Hp} {D : Addr}, Same H4 G → G D = some (.lst [.ref g1, .ref g2, .ref g3]) → ∀ (j : Nat) (a : Addr) (t : PySem.Str), [g1, g2, g3][j]? = some a → [txtR f1 (!e1), txtR f2 (!e2), txtR f3 (!e3)][j]? = some t → ItR K C D a t G := fun {G D} S hD j a t ha ht => by
        have nd : NoDat G C D := ⟨_, g1, hD, by simp, (D1.rg.same S).ins⟩
        match j, ha, ht with
        | 0, ha, ht => cases ha; cases ht; exact ⟨f1, !e1, D1.rg.same S, w1, rfl, nd⟩
        | 1, ha, ht => cases ha; cases ht; exact ⟨f2, !e2, D2.rg.same S, w2, rfl, nd⟩
        | 2, ha, ht => cases ha; cases ht; exact ⟨f3, !e3, D3.rg.same S, w3, rfl, nd⟩
        | j + 3, ha, _ => simp at ha
      refine ⟨fun σ' H' => Same H4 H' ∧ σ' = [some (.ref a), some (.int (0 + (i : Int))), some (.ref p), some (.ref x), some (.ref y), some (.ref r1), some (.ref r2), some (.ref r3), some (.str (listText [txtR f1 (!e1), txtR f2 (!e2), txtR f3 (!e3)])), o9, o10, o11, o12, o13], ?_, ?_⟩
      · refine ⟨.ref r1, rfl, r1, _, 0, .ref g1, rfl, rfl, .inl (.inl D1.at_), atI_nat (j := 0) rfl, .ref r2, rfl, r2, _, 0, .ref g2, rfl, rfl, .inl (.inl D2.at_), atI_nat (j := 0) rfl, .ref r3, rfl, r3, _, 0, .ref g3, rfl, rfl, .inl (.inl D3.at_), atI_nat (j := 0) rfl, (by show 3 ≤ sizeLine; decide), fun D hD => ?_⟩
        exact ⟨D, [g1, g2, g3], [txtR f1 (!e1), txtR f2 (!e2), txtR f3 (!e3)], rfl, upd_same, by simp, rfl, tx, it3 (same_new hD) upd_same, fun H' S => ⟨(same_new hD).trans S, rfl⟩⟩
      rintro _ H5 ⟨S5, rfl⟩
      -- the squares
      have hx5 := S5 _ _ (B4 _ _ xp hx)
      have hy5 := S5 _ _ (B4 _ _ yp hy)
      refine ⟨fun σ' H' => ∃ (pl : Addr) (zs : List V) (sqs : List (Int × Int)), Same H5 H' ∧ H' pl = some (.lst zs) ∧ DpAll K H' zs (sqs.map encP) ∧ sqs.length ≤ 500 ∧ (∀ u ∈ ext xs, ∀ v ∈ ext ys, (u, v) ∈ sqs) ∧ σ' = [some (.ref a), some (.int (0 + (i : Int))), some (.ref p), some (.ref x), some (.ref y), some (.ref r1), some (.ref r2), some (.ref r3), some (.str (listText [txtR f1 (!e1), txtR f2 (!e2), txtR f3 (!e3)])), some (.ref pl), o10, o11, o12, o13], ?_, ?_⟩
      · exact ⟨.ref x, rfl, .ref y, rfl, x, y, xs, ys, rfl, hx5, hy5, by omega, x9, by omega, y9, fun H6 pl zs sqs S6 pn hpl dz sl mem => ⟨pl, zs, sqs, S6, hpl, dz, sl, mem, rfl⟩⟩
      rintro _ H6 ⟨pl, zs, sqs, S6, hpl, dz, sl, mem, rfl⟩
      have S46 := S5.trans S6
      refine ⟨fun σ' H' => Same H6 H' ∧ σ' = [some (.ref a), some (.int (0 + (i : Int))), some (.ref p), some (.ref x), some (.ref y), some (.ref r1), some (.ref r2), some (.ref r3), some (.str (listText [txtR f1 (!e1), txtR f2 (!e2), txtR f3 (!e3)])), some (.ref pl), o10, o11, o12, o13], ?_, ?_⟩
      · refine ⟨.ref r1, rfl, .ref r2, rfl, .ref pl, rfl, r1, r2, pl, g1, g2, l1, l2, us1, us2, zs, b1, b2, f1, f2, e1, e2, xs, ys, sqs, rfl, D1.same S46, D2.same S46, hpl, dz, sl, mem, ux, uy, by omega, by omega, fun H7 S7 => ⟨true, rfl, iteF ?_⟩⟩
        exact ⟨.ref r2, rfl, .ref r3, rfl, .ref pl, rfl, r2, r3, pl, g2, g3, l2, l3, us2, us3, zs, b2, b3, f2, f3, e2, e3, xs, ys, sqs, rfl, D2.same (S46.trans S7), D3.same (S46.trans S7), S7 _ _ hpl, dpAll_same S7 dz, sl, mem, ux, uy, by omega, by omega, fun H8 S8 => ⟨true, rfl, iteF ⟨S7.trans S8, rfl⟩⟩⟩
      rintro _ H7 ⟨S7, rfl⟩
      have S47 := S46.trans S7
      have D1a := D1.same S47
      have D2a := D2.same S47
      have D3a := D3.same S47
      -- the laws, and that nothing has changed
      refine ⟨fun σ' H' => Same H7 H' ∧ σ' = [some (.ref a), some (.int (0 + (i : Int))), some (.ref p), some (.ref x), some (.ref y), some (.ref r1), some (.ref r2), some (.ref r3), some (.str (listText [txtR f1 (!e1), txtR f2 (!e2), txtR f3 (!e3)])), some (.ref pl), o10, o11, o12, o13], ?_, ?_⟩
      · refine ⟨.ref r1, rfl, r1, _, 0, .ref g1, rfl, rfl, .inl (.inl D1a.at_), atI_nat (j := 0) rfl, .ref r2, rfl, r2, _, 0, .ref g2, rfl, rfl, .inl (.inl D2a.at_), atI_nat (j := 0) rfl, .ref r3, rfl, r3, _, 0, .ref g3, rfl, rfl, .inl (.inl D3a.at_), atI_nat (j := 0) rfl, ?_⟩
        refine ⟨g1, g2, g3, fun i => if i = 0 then (f1, !e1) else if i = 1 then (f2, !e2) else (f3, !e3), rfl, fun i hi => ?_, fun H8 S8 => ⟨true, rfl, iteF ?_⟩⟩
        · match i, hi with
          | 0, _ => exact ⟨⟨g1, rfl, D1a.rg⟩, D1.sz.mono (by decide)⟩
          | 1, _ => exact ⟨⟨g2, rfl, D2a.rg⟩, D2.sz.mono (by decide)⟩
          | 2, _ => exact ⟨⟨g3, rfl, D3a.rg⟩, D3.sz.mono (by decide)⟩
        have D1b := D1a.same S8
        have D2b := D2a.same S8
        have D3b := D3a.same S8
        refine ⟨.ref r1, rfl, r1, _, 0, .ref g1, rfl, rfl, .inl (.inl D1b.at_), atI_nat (j := 0) rfl, .ref r2, rfl, r2, _, 0, .ref g2, rfl, rfl, .inl (.inl D2b.at_), atI_nat (j := 0) rfl, .ref r3, rfl, r3, _, 0, .ref g3, rfl, rfl, .inl (.inl D3b.at_), atI_nat (j := 0) rfl, (by show 3 ≤ sizeLine; decide), fun D hD => ?_⟩
        refine ⟨D, [g1, g2, g3], [txtR f1 (!e1), txtR f2 (!e2), txtR f3 (!e3)], rfl, upd_same, by simp, rfl, tx, it3 ((S47.trans S8).trans (same_new hD)) upd_same, fun H9 S9 => ⟨_, rfl, rfl, _, rfl, ?_⟩⟩
        exact ite2 (fun e => absurd e (by rw [decide_eq_true rfl]; decide)) (fun _ => ⟨(S8.trans (same_new hD)).trans S9, rfl⟩)
      rintro _ H8 ⟨S8, rfl⟩
      have S48 := S47.trans S8
      have D1c := D1.same S48
      have D2c := D2.same S48
      -- each of two
      refine ⟨.ref r1, rfl, .ref r2, rfl, (by show 2 ≤ sizeLine; decide), fun D hD => ⟨D, rfl, ⟨_, .inl (.inl upd_same)⟩, ?_⟩⟩
      have S9 := same_new (o := .lst [.ref r1, .ref r2]) hD
      refine wkS 2 (fun j σ H' => ∃ (o10 o11 o12 : Option V), Same H8 H' ∧ H' D = some (.lst [.ref r1, .ref r2]) ∧ σ = [some (.ref a), some (.int (0 + (i : Int))), some (.ref p), some (.ref x), some (.ref y), some (.ref r1), some (.ref r2), some (.ref r3), some (.str (listText [txtR f1 (!e1), txtR f2 (!e2), txtR f3 (!e3)])), some (.ref pl), o10, o11, o12, o13]) ⟨o10, o11, o12, S9, upd_same, rfl⟩ (fun j σ H9 hj r => ?_) (fun σ H9 r => ?_)
      · obtain ⟨o10, o11, o12, S9, hL, rfl⟩ := r
        refine tl_go (xs := [.ref r1, .ref r2]) (.inl (.inl hL)) hj (fun z hz => ?_)
        obtain ⟨rr, g, l, us, b, f, o, ez, d, wf⟩ : ∃ rr g l us b f o, z = .ref rr ∧ Dr K C H4 xs ys rr g l us b f o ∧ Fits f := by
          match j, hj, hz with
          | 0, _, hz => cases hz; exact ⟨r1, g1, l1, us1, b1, f1, e1, rfl, D1, w1⟩
          | 1, _, hz => cases hz; exact ⟨r2, g2, l2, us2, b2, f2, e2, rfl, D2, w2⟩
        subst ez
        have dd := d.same (S48.trans S9)
        obtain ⟨dx, v, eX, dv⟩ := id dd.rg
        have sz4 := d.sz
        have fl9 : f.length ≤ 1000 := by have := sz4.few.1; omega
        refine ⟨rr, _, rfl, .inl (.inl dd.at_), rfl, _, _, rfl, _, _, rfl, _, _, rfl, rfl, ?_⟩
        refine ⟨fun σ' H' => Same H9 H' ∧ σ' = [some (.ref a), some (.int (0 + (i : Int))), some (.ref p), some (.ref x), some (.ref y), some (.ref r1), some (.ref r2), some (.ref r3), some (.str (listText [txtR f1 (!e1), txtR f2 (!e2), txtR f3 (!e3)])), some (.ref pl), some (.ref g), some (.ref l), some (.bl o), o13], ?_, ?_⟩
        · refine ⟨.ref g, rfl, g, rfl, dd.rg.ins, g, f, !o, rfl, dd.rg, wf, fun H10 S10 => ⟨_, rfl, ?_⟩⟩
          refine ⟨(by show 2 ≤ sizeLine; decide), fun t1 ht1 => ?_⟩
          have S11 := S10.trans (same_new (o := .lst [.str "", .str "~"]) ht1)
          refine ⟨.bl o, rfl, .inr ⟨o, rfl, ?_⟩⟩
          have sh := nice_out wf.sm
          have sl1 : (outF f).shown.length ≤ 1000000 := Nat.le_trans (shown_wide _ sh) wf.wide
          have big : 2000000 ≤ sizeLine := by decide
          have z1 : (("" : PySem.Str) ++ ("Region(" : PySem.Str)).length ≤ 100 := by decide
          have z2 : (("~" : PySem.Str) ++ ("Region(" : PySem.Str)).length ≤ 100 := by decide
          have z3 : ((")" : PySem.Str)).length ≤ 100 := by decide
          have dp := depth_out f
          refine ⟨t1, _, _, .str (if o then "~" else ""), rfl, rfl, .inl (.inl upd_same), (by cases o <;> rfl), ?_⟩
          refine ⟨_, _, rfl, rfl, (by cases o <;> decide), ?_⟩
          refine ⟨.ref g, rfl, g, dx, _, rfl, S11 _ _ eX, g, f, !o, rfl, dd.rg.same S11, fl9, fun H12 D12 ws S12 nD hD12 sl12 => ?_⟩
          refine ⟨.ref D12, outF f, rfl, .lst (.inl (.inl hD12)) (sl12.dp S12), sh, by omega, wf.wide, ?_⟩
          refine ⟨_, _, rfl, rfl, (by cases o <;> (simp only [if_true, if_false, Bool.false_eq_true]; omega)), ?_⟩
          refine ⟨_, _, rfl, rfl, (by rw [Str.length_append]; cases o <;> (simp only [if_true, if_false, Bool.false_eq_true]; omega)), rfl, _, rfl, ?_⟩
          have et : txtR f (!o) = (((if o then ("~" : PySem.Str) else "") ++ ("Region(" : PySem.Str)) ++ (outF f).shown) ++ (")" : PySem.Str) := by
            unfold txtR
            cases o with
            | true => rw [show (Str.empty ++ (if (!true) = true then ("Region(" : PySem.Str) else ("~Region(" : PySem.Str))) = (if true = true then ("~" : PySem.Str) else "") ++ ("Region(" : PySem.Str) by decide]
            | false => rw [show (Str.empty ++ (if (!false) = true then ("Region(" : PySem.Str) else ("~Region(" : PySem.Str))) = (if false = true then ("~" : PySem.Str) else "") ++ ("Region(" : PySem.Str) by decide]
          rw [et, decide_eq_true rfl]
          exact ite2 (fun e => absurd e (by decide)) (fun _ => ⟨S11.trans S12, rfl⟩)
        rintro _ H10 ⟨S10, rfl⟩
        have rg10 := dd.rg.same S10
        have eX10 := S10 _ _ eX
        refine ⟨.ref g, rfl, .ref g, rfl, g, dx, _, rfl, eX10, g, f, !o, rfl, rg10, fl9, fun H11 D11 ws S11 nD hD11 sl11 => ?_⟩
        have oth : Oth K H11 (.ref D11) (.type "list") := .inl ⟨rfl, D11, ws, rfl, hD11⟩
        refine ⟨g, _, rfl, (rg10.same S11).ins, oth, ⟨g, .ref D11, _, rfl, oth, _, rfl, _, rfl, iteF ?_⟩⟩
        refine ⟨.ref g, rfl, g, dx, _, rfl, S11 _ _ eX10, g, f, !o, rfl, rg10.same S11, fl9, fun H12 D12 ws2 S12 nD2 hD12 sl12 => ?_⟩
        have rg12 := (rg10.same S11).same S12
        refine ⟨.ref g, rfl, g, rfl, rg12.ins, g, f, !o, rfl, rg12, fun H13 y S13 ry => ?_⟩
        obtain ⟨dy, vy, eY, _⟩ := id ry
        refine ⟨y, dy, _, rfl, eY, y, f, !(!o), rfl, ry, fl9, fun H14 D14 ws3 S14 nD3 hD14 sl14 => ?_⟩
        refine ⟨.list (f.map encO), .list (f.map encO), .lst (.inl (.inl (S14 _ _ (S13 _ _ hD12)))) (dpAll_same (S13.trans S14) (sl12.dp S12)), .lst (.inl (.inl hD14)) (sl14.dp S14), shaped_out f, shaped_out f, _, rfl, ite2 (fun e => ?_) (fun _ => ?_)⟩
        · rw [eqv_out'] at e
          cases e
        have rg14 := (rg12.same S13).same S14
        refine ⟨.ref g, rfl, .ref g, rfl, g, rfl, rg14.ins, g, f, !o, rfl, rg14, fun H15 y2 S15 ry2 => ?_⟩
        refine ⟨g, y2, rfl, rfl, (rg14.same S15).ins, ry2.ins, g, y2, f, !o, f, !(!o), rfl, rg14.same S15, ry2, _, rfl, _, rfl, ite2 (fun e => ?_) (fun _ => ?_)⟩
        · unfold sameR at e
          cases o <;> simp at e
        · have SS := ((((S10.trans S11).trans S12).trans S13).trans S14).trans S15
          exact ⟨_, _, _, S9.trans SS, SS _ _ hL, rfl⟩
      · obtain ⟨o10, o11, o12, S9, hL, rfl⟩ := r
        exact ⟨tl_end (xs := [.ref r1, .ref r2]) (.inl (.inl hL)), S1.trans (out (B3.trans (B4.trans (But.of (S48.trans S9))))), _, _, _, _, _, _, _, _, _, _, _, _, _, rfl⟩
    rintro _ H1 ⟨o1, o2, o3, o4, o5, o6, o7, o8, o9, o10, o11, o12, o13, rfl⟩
    exact q H1
end
end Vf

set_option Elab.async false
set_option linter.all false
set_option maxRecDepth 100000
namespace Vf
open PySem PySem.Spec PyProof.Rows L2
open Fm (Spans Form Slab Keep)
set_option maxHeartbeats 0 in
theorem all_mk {l : PySem.W.OpenLaw} {w : World} {K : PySem.W.Frag} {h : Heap} {mg : Str → Option Value} {fa C e_EITHER e_BOTH e_ONLY_FIRST e_EXACTLY_ONE f0 f1 f2 f3 f4 f5 f6 f7 f8 f9 f10 f11 f12 f13 f14 f15 f16 f17 f18 f19 f20 f21 f22 f23 f24 f25 f26 f27 f28 f29 f30 f31 f32 f33 f34 f35 f36 f37 f38 f39 f40 f41 f42 p27 p28 p29 p30 p31 : Addr} (X : K.In h) (G : h.Ns mainGlobals mg) (hfa : mg "law" = some (.ref fa))
    {od0 an0 od1 an1 od2 an2 od3 an3 od4 an4 od5 an5 od6 an6 od7 an7 od8 an8 od9 an9 od10 an10 od11 an11 od12 an12 od13 an13 od14 an14 od15 an15 od16 an16 od17 an17 od18 an18 od19 an19 od20 an20 od21 an21 od22 an22 od23 an23 od24 an24 od25 an25 od26 an26 od27 an27 od28 an28 od29 an29 od30 an30 od31 an31 od32 an32 od33 an33 od34 an34 od35 an35 od36 an36 od37 an37 od38 an38 od39 an39 od40 an40 od41 an41 od42 an42 od_EITHER od_BOTH od_ONLY_FIRST od_EXACTLY_ONE : Option Addr} {sl0 sl1 sl2 sl3 sl4 sl5 sl6 sl7 sl8 sl9 sl10 sl11 sl12 sl13 sl14 sl15 sl16 sl17 sl18 sl19 sl20 sl21 sl22 sl23 sl24 sl25 sl26 sl27 sl28 sl29 sl30 sl31 sl32 sl33 sl34 sl35 sl36 sl37 sl38 sl39 sl40 sl41 sl42 sl_EITHER sl_BOTH sl_ONLY_FIRST sl_EXACTLY_ONE : Array (Option Value)} {oc0 kV0 dc0 pm0 cd0 ct0 oc1 kV1 dc1 pm1 cd1 ct1 oc2 kV2 dc2 pm2 cd2 ct2 oc3 kV3 dc3 pm3 cd3 ct3 oc4 kV4 dc4 pm4 cd4 ct4 oc5 kV5 dc5 pm5 cd5 ct5 oc6 kV6 dc6 pm6 cd6 ct6 oc7 kV7 dc7 pm7 cd7 ct7 oc8 kV8 dc8 pm8 cd8 ct8 oc9 kV9 dc9 pm9 cd9 ct9 oc10 kV10 dc10 pm10 cd10 ct10 oc11 kV11 dc11 pm11 cd11 ct11 oc12 kV12 dc12 pm12 cd12 ct12 oc13 kV13 dc13 pm13 cd13 ct13 oc14 kV14 dc14 pm14 cd14 ct14 oc15 kV15 dc15 pm15 cd15 ct15 oc16 kV16 dc16 pm16 cd16 ct16 oc17 kV17 dc17 pm17 cd17 ct17 oc18 kV18 dc18 pm18 cd18 ct18 oc19 kV19 dc19 pm19 cd19 ct19 oc20 kV20 dc20 pm20 cd20 ct20 oc21 kV21 dc21 pm21 cd21 ct21 oc22 kV22 dc22 pm22 cd22 ct22 oc23 kV23 dc23 pm23 cd23 ct23 oc24 kV24 dc24 pm24 cd24 ct24 oc25 kV25 dc25 pm25 cd25 ct25 oc26 kV26 dc26 pm26 cd26 ct26 oc27 kV27 dc27 pm27 cd27 ct27 oc28 kV28 dc28 pm28 cd28 ct28 oc29 kV29 dc29 pm29 cd29 ct29 oc30 kV30 dc30 pm30 cd30 ct30 oc31 kV31 dc31 pm31 cd31 ct31 oc32 kV32 dc32 pm32 cd32 ct32 oc33 kV33 dc33 pm33 cd33 ct33 oc34 kV34 dc34 pm34 cd34 ct34 oc35 kV35 dc35 pm35 cd35 ct35 oc36 kV36 dc36 pm36 cd36 ct36 oc37 kV37 dc37 pm37 cd37 ct37 oc38 kV38 dc38 pm38 cd38 ct38 oc39 kV39 dc39 pm39 cd39 ct39 oc40 kV40 dc40 pm40 cd40 ct40 oc41 kV41 dc41 pm41 cd41 ct41 oc42 kV42 dc42 pm42 cd42 ct42 : Value} {r27 r28 r29 r30 r31 : List Value} {n_EITHER n_BOTH n_ONLY_FIRST n_EXACTLY_ONE : Nat}
    (aC : PySem.W.nsIn K mainGlobals "Region" = some (some (.ref C)))
    (a0 : PySem.W.nsIn K mainGlobals "is_whole" = some (some (.ref f0)))
    (l0 : K.lookup f0 = some ⟨oc0, od0, .func (PySem.W.fnOf "is_whole" "is_whole" (defArgs sWhole) (defBody sWhole) (defScope sWhole) .none kV0 dc0 pm0 an0 cd0 ct0), sl0⟩)
    (c0 : PySem.W.codeIn K cd0 "is_whole" = true)
    (k0 : PySem.W.keepIn K (.ref f0) = true)
    (a1 : PySem.W.nsIn K mainGlobals "are_whole" = some (some (.ref f1)))
    (l1 : K.lookup f1 = some ⟨oc1, od1, .func (PySem.W.fnOf "are_whole" "are_whole" (defArgs sAre) (defBody sAre) (defScope sAre) .none kV1 dc1 pm1 an1 cd1 ct1), sl1⟩)
    (c1 : PySem.W.codeIn K cd1 "are_whole" = true)
    (k1 : PySem.W.keepIn K (.ref f1) = true)
    (a2 : PySem.W.nsIn K mainGlobals "is_square" = some (some (.ref f2)))
    (l2 : K.lookup f2 = some ⟨oc2, od2, .func (PySem.W.fnOf "is_square" "is_square" (defArgs sSq) (defBody sSq) (defScope sSq) .none kV2 dc2 pm2 an2 cd2 ct2), sl2⟩)
    (c2 : PySem.W.codeIn K cd2 "is_square" = true)
    (k2 : PySem.W.keepIn K (.ref f2) = true)
    (a3 : PySem.W.nsIn K mainGlobals "is_box" = some (some (.ref f3)))
    (l3 : K.lookup f3 = some ⟨oc3, od3, .func (PySem.W.fnOf "is_box" "is_box" (defArgs sBox) (defBody sBox) (defScope sBox) .none kV3 dc3 pm3 an3 cd3 ct3), sl3⟩)
    (c3 : PySem.W.codeIn K cd3 "is_box" = true)
    (k3 : PySem.W.keepIn K (.ref f3) = true)
    (a4 : PySem.W.nsIn K mainGlobals "combined_spans" = some (some (.ref f4)))
    (l4 : K.lookup f4 = some ⟨oc4, od4, .func (PySem.W.fnOf "combined_spans" "combined_spans" (defArgs sComb) (defBody sComb) (defScope sComb) .none kV4 dc4 pm4 an4 cd4 ct4), sl4⟩)
    (c4 : PySem.W.codeIn K cd4 "combined_spans" = true)
    (k4 : PySem.W.keepIn K (.ref f4) = true)
    (a5 : PySem.W.nsIn K mainGlobals "steps_of" = some (some (.ref f5)))
    (l5 : K.lookup f5 = some ⟨oc5, od5, .func (PySem.W.fnOf "steps_of" "steps_of" (defArgs sSteps) (defBody sSteps) (defScope sSteps) .none kV5 dc5 pm5 an5 cd5 ct5), sl5⟩)
    (c5 : PySem.W.codeIn K cd5 "steps_of" = true)
    (k5 : PySem.W.keepIn K (.ref f5) = true)
    (a6 : PySem.W.nsIn K mainGlobals "form_of_steps" = some (some (.ref f6)))
    (l6 : K.lookup f6 = some ⟨oc6, od6, .func (PySem.W.fnOf "form_of_steps" "form_of_steps" (defArgs sForm) (defBody sForm) (defScope sForm) .none kV6 dc6 pm6 an6 cd6 ct6), sl6⟩)
    (c6 : PySem.W.codeIn K cd6 "form_of_steps" = true)
    (k6 : PySem.W.keepIn K (.ref f6) = true)
    (a7 : PySem.W.nsIn K mainGlobals "combined" = some (some (.ref f7)))
    (l7 : K.lookup f7 = some ⟨oc7, od7, .func (PySem.W.fnOf "combined" "combined" (defArgs sCmb) (defBody sCmb) (defScope sCmb) .none kV7 dc7 pm7 an7 cd7 ct7), sl7⟩)
    (c7 : PySem.W.codeIn K cd7 "combined" = true)
    (k7 : PySem.W.keepIn K (.ref f7) = true)
    (a8 : PySem.W.nsIn K mainGlobals "form_of_boxes" = some (some (.ref f8)))
    (l8 : K.lookup f8 = some ⟨oc8, od8, .func (PySem.W.fnOf "form_of_boxes" "form_of_boxes" (defArgs sBoxes) (defBody sBoxes) (defScope sBoxes) .none kV8 dc8 pm8 an8 cd8 ct8), sl8⟩)
    (c8 : PySem.W.codeIn K cd8 "form_of_boxes" = true)
    (k8 : PySem.W.keepIn K (.ref f8) = true)
    (a9 : PySem.W.nsIn K mainGlobals "spans_at" = some (some (.ref f9)))
    (l9 : K.lookup f9 = some ⟨oc9, od9, .func (PySem.W.fnOf "spans_at" "spans_at" (defArgs sAt) (defBody sAt) (defScope sAt) .none kV9 dc9 pm9 an9 cd9 ct9), sl9⟩)
    (c9 : PySem.W.codeIn K cd9 "spans_at" = true)
    (k9 : PySem.W.keepIn K (.ref f9) = true)
    (a10 : PySem.W.nsIn K mainGlobals "has_square" = some (some (.ref f10)))
    (l10 : K.lookup f10 = some ⟨oc10, od10, .func (PySem.W.fnOf "has_square" "has_square" (defArgs sHas) (defBody sHas) (defScope sHas) .none kV10 dc10 pm10 an10 cd10 ct10), sl10⟩)
    (c10 : PySem.W.codeIn K cd10 "has_square" = true)
    (k10 : PySem.W.keepIn K (.ref f10) = true)
    (a11 : PySem.W.nsIn K mainGlobals "check_region" = some (some (.ref f11)))
    (l11 : K.lookup f11 = some ⟨oc11, od11, .func (PySem.W.fnOf "check_region" "check_region" (defArgs sCheck) (defBody sCheck) (defScope sCheck) .none kV11 dc11 pm11 an11 cd11 ct11), sl11⟩)
    (c11 : PySem.W.codeIn K cd11 "check_region" = true)
    (k11 : PySem.W.keepIn K (.ref f11) = true)
    (a12 : PySem.W.nsIn K mainGlobals "check_square" = some (some (.ref f12)))
    (l12 : K.lookup f12 = some ⟨oc12, od12, .func (PySem.W.fnOf "check_square" "check_square" (defArgs sCheckSq) (defBody sCheckSq) (defScope sCheckSq) .none kV12 dc12 pm12 an12 cd12 ct12), sl12⟩)
    (c12 : PySem.W.codeIn K cd12 "check_square" = true)
    (k12 : PySem.W.keepIn K (.ref f12) = true)
    (a13 : PySem.W.nsIn K mainGlobals "_law_pool" = some (some (.ref f13)))
    (l13 : K.lookup f13 = some ⟨oc13, od13, .func (PySem.W.fnOf "_law_pool" "_law_pool" (defArgs sPool) (defBody sPool) (defScope sPool) .none kV13 dc13 pm13 an13 cd13 ct13), sl13⟩)
    (c13 : PySem.W.codeIn K cd13 "_law_pool" = true)
    (k13 : PySem.W.keepIn K (.ref f13) = true)
    (a14 : PySem.W.nsIn K mainGlobals "_law_take" = some (some (.ref f14)))
    (l14 : K.lookup f14 = some ⟨oc14, od14, .func (PySem.W.fnOf "_law_take" "_law_take" (defArgs sTake) (defBody sTake) (defScope sTake) .none kV14 dc14 pm14 an14 cd14 ct14), sl14⟩)
    (c14 : PySem.W.codeIn K cd14 "_law_take" = true)
    (k14 : PySem.W.keepIn K (.ref f14) = true)
    (a15 : PySem.W.nsIn K mainGlobals "_law_lines" = some (some (.ref f15)))
    (l15 : K.lookup f15 = some ⟨oc15, od15, .func (PySem.W.fnOf "_law_lines" "_law_lines" (defArgs sLines) (defBody sLines) (defScope sLines) .none kV15 dc15 pm15 an15 cd15 ct15), sl15⟩)
    (c15 : PySem.W.codeIn K cd15 "_law_lines" = true)
    (k15 : PySem.W.keepIn K (.ref f15) = true)
    (a16 : PySem.W.nsIn K mainGlobals "_law_boxes" = some (some (.ref f16)))
    (l16 : K.lookup f16 = some ⟨oc16, od16, .func (PySem.W.fnOf "_law_boxes" "_law_boxes" (defArgs sDrawn) (defBody sDrawn) (defScope sDrawn) .none kV16 dc16 pm16 an16 cd16 ct16), sl16⟩)
    (c16 : PySem.W.codeIn K cd16 "_law_boxes" = true)
    (k16 : PySem.W.keepIn K (.ref f16) = true)
    (a17 : PySem.W.nsIn K mainGlobals "_law_has" = some (some (.ref f17)))
    (l17 : K.lookup f17 = some ⟨oc17, od17, .func (PySem.W.fnOf "_law_has" "_law_has" (defArgs sHasL) (defBody sHasL) (defScope sHasL) .none kV17 dc17 pm17 an17 cd17 ct17), sl17⟩)
    (c17 : PySem.W.codeIn K cd17 "_law_has" = true)
    (k17 : PySem.W.keepIn K (.ref f17) = true)
    (a18 : PySem.W.nsIn K mainGlobals "_law_probes" = some (some (.ref f18)))
    (l18 : K.lookup f18 = some ⟨oc18, od18, .func (PySem.W.fnOf "_law_probes" "_law_probes" (defArgs sProbes) (defBody sProbes) (defScope sProbes) .none kV18 dc18 pm18 an18 cd18 ct18), sl18⟩)
    (c18 : PySem.W.codeIn K cd18 "_law_probes" = true)
    (k18 : PySem.W.keepIn K (.ref f18) = true)
    (a19 : PySem.W.nsIn K mainGlobals "_law_drawn" = some (some (.ref f19)))
    (l19 : K.lookup f19 = some ⟨oc19, od19, .func (PySem.W.fnOf "_law_drawn" "_law_drawn" (defArgs sL_drawn) (defBody sL_drawn) (defScope sL_drawn) .none kV19 dc19 pm19 an19 cd19 ct19), sl19⟩)
    (c19 : PySem.W.codeIn K cd19 "_law_drawn" = true)
    (k19 : PySem.W.keepIn K (.ref f19) = true)
    (a20 : PySem.W.nsIn K mainGlobals "_law_in" = some (some (.ref f20)))
    (l20 : K.lookup f20 = some ⟨oc20, od20, .func (PySem.W.fnOf "_law_in" "_law_in" (defArgs sL_in) (defBody sL_in) (defScope sL_in) .none kV20 dc20 pm20 an20 cd20 ct20), sl20⟩)
    (c20 : PySem.W.codeIn K cd20 "_law_in" = true)
    (k20 : PySem.W.keepIn K (.ref f20) = true)
    (a21 : PySem.W.nsIn K mainGlobals "_law_is_spans" = some (some (.ref f21)))
    (l21 : K.lookup f21 = some ⟨oc21, od21, .func (PySem.W.fnOf "_law_is_spans" "_law_is_spans" (defArgs sIsSpans) (defBody sIsSpans) (defScope sIsSpans) .none kV21 dc21 pm21 an21 cd21 ct21), sl21⟩)
    (c21 : PySem.W.codeIn K cd21 "_law_is_spans" = true)
    (k21 : PySem.W.keepIn K (.ref f21) = true)
    (a22 : PySem.W.nsIn K mainGlobals "_law_is_form" = some (some (.ref f22)))
    (l22 : K.lookup f22 = some ⟨oc22, od22, .func (PySem.W.fnOf "_law_is_form" "_law_is_form" (defArgs sIsForm) (defBody sIsForm) (defScope sIsForm) .none kV22 dc22 pm22 an22 cd22 ct22), sl22⟩)
    (c22 : PySem.W.codeIn K cd22 "_law_is_form" = true)
    (k22 : PySem.W.keepIn K (.ref f22) = true)
    (a23 : PySem.W.nsIn K mainGlobals "_law_right" = some (some (.ref f23)))
    (l23 : K.lookup f23 = some ⟨oc23, od23, .func (PySem.W.fnOf "_law_right" "_law_right" (defArgs sRight) (defBody sRight) (defScope sRight) .none kV23 dc23 pm23 an23 cd23 ct23), sl23⟩)
    (c23 : PySem.W.codeIn K cd23 "_law_right" = true)
    (k23 : PySem.W.keepIn K (.ref f23) = true)
    (a24 : PySem.W.nsIn K mainGlobals "_law_alike" = some (some (.ref f24)))
    (l24 : K.lookup f24 = some ⟨oc24, od24, .func (PySem.W.fnOf "_law_alike" "_law_alike" (defArgs sL_alike) (defBody sL_alike) (defScope sL_alike) .none kV24 dc24 pm24 an24 cd24 ct24), sl24⟩)
    (c24 : PySem.W.codeIn K cd24 "_law_alike" = true)
    (k24 : PySem.W.keepIn K (.ref f24) = true)
    (a25 : PySem.W.nsIn K mainGlobals "law" = some (some (.ref f25)))
    (l25 : K.lookup f25 = some ⟨oc25, od25, .func (PySem.W.fnOf "law" "law" (defArgs sLaw) (defBody sLaw) (defScope sLaw) .none kV25 dc25 pm25 an25 cd25 ct25), sl25⟩)
    (c25 : PySem.W.codeIn K cd25 "law" = true)
    (k25 : PySem.W.keepIn K (.ref f25) = true)
    (a26 : PySem.W.findIn K (.ref C) "__init__" = some (some (.ref f26)))
    (i26 : PySem.W.isFn K (.ref f26) = true)
    (l26 : K.lookup f26 = some ⟨oc26, od26, .func (PySem.W.fnOf "__init__" "Region.__init__" (defArgs sInit) (defBody sInit) (defScope sInit) .none kV26 dc26 pm26 an26 cd26 ct26), sl26⟩)
    (c26 : PySem.W.codeIn K cd26 "Region.__init__" = true)
    (k26 : PySem.W.keepIn K (.ref f26) = true)
    (a27 : PySem.W.findCls K (.ref C) (.type "type") "of" = some (.get (.builtin "classmethod.__get__") (.ref p27) .none (.ref C)))
    (e27 : PySem.W.recIn K p27 "classmethod" = some (.ref f27 :: r27))
    (n27 : PySem.W.fnIn K f27 = true)
    (l27 : K.lookup f27 = some ⟨oc27, od27, .func (PySem.W.fnOf "of" "Region.of" (defArgs sOf) (defBody sOf) (defScope sOf) .none kV27 dc27 pm27 an27 cd27 ct27), sl27⟩)
    (c27 : PySem.W.codeIn K cd27 "Region.of" = true)
    (k27 : PySem.W.keepIn K (.ref f27) = true)
    (a28 : PySem.W.findCls K (.ref C) (.type "type") "empty" = some (.get (.builtin "staticmethod.__get__") (.ref p28) .none (.ref C)))
    (e28 : PySem.W.recIn K p28 "staticmethod" = some (.ref f28 :: r28))
    (l28 : K.lookup f28 = some ⟨oc28, od28, .func (PySem.W.fnOf "empty" "Region.empty" (defArgs sEmpty) (defBody sEmpty) (defScope sEmpty) .none kV28 dc28 pm28 an28 cd28 ct28), sl28⟩)
    (c28 : PySem.W.codeIn K cd28 "Region.empty" = true)
    (k28 : PySem.W.keepIn K (.ref f28) = true)
    (a29 : PySem.W.findCls K (.ref C) (.type "type") "everything" = some (.get (.builtin "staticmethod.__get__") (.ref p29) .none (.ref C)))
    (e29 : PySem.W.recIn K p29 "staticmethod" = some (.ref f29 :: r29))
    (l29 : K.lookup f29 = some ⟨oc29, od29, .func (PySem.W.fnOf "everything" "Region.everything" (defArgs sEvery) (defBody sEvery) (defScope sEvery) .none kV29 dc29 pm29 an29 cd29 ct29), sl29⟩)
    (c29 : PySem.W.codeIn K cd29 "Region.everything" = true)
    (k29 : PySem.W.keepIn K (.ref f29) = true)
    (a30 : PySem.W.findIn K (.ref C) "is_bounded" = some (some (.ref p30)))
    (g30 : PySem.W.specialIn K (.ref p30) "__get__" = some (some (.builtin "property.__get__")))
    (t30 : PySem.W.takesIn K (.ref p30) = some true)
    (e30 : PySem.W.recIn K p30 "property" = some (.ref f30 :: r30))
    (l30 : K.lookup f30 = some ⟨oc30, od30, .func (PySem.W.fnOf "is_bounded" "Region.is_bounded" (defArgs sIsB) (defBody sIsB) (defScope sIsB) .none kV30 dc30 pm30 an30 cd30 ct30), sl30⟩)
    (c30 : PySem.W.codeIn K cd30 "Region.is_bounded" = true)
    (k30 : PySem.W.keepIn K (.ref f30) = true)
    (a31 : PySem.W.findIn K (.ref C) "slabs" = some (some (.ref p31)))
    (g31 : PySem.W.specialIn K (.ref p31) "__get__" = some (some (.builtin "property.__get__")))
    (t31 : PySem.W.takesIn K (.ref p31) = some true)
    (e31 : PySem.W.recIn K p31 "property" = some (.ref f31 :: r31))
    (l31 : K.lookup f31 = some ⟨oc31, od31, .func (PySem.W.fnOf "slabs" "Region.slabs" (defArgs sSlabs) (defBody sSlabs) (defScope sSlabs) .none kV31 dc31 pm31 an31 cd31 ct31), sl31⟩)
    (c31 : PySem.W.codeIn K cd31 "Region.slabs" = true)
    (k31 : PySem.W.keepIn K (.ref f31) = true)
    (a32 : PySem.W.findIn K (.ref C) "_combined" = some (some (.ref f32)))
    (i32 : PySem.W.isFn K (.ref f32) = true)
    (l32 : K.lookup f32 = some ⟨oc32, od32, .func (PySem.W.fnOf "_combined" "Region._combined" (defArgs sCombined) (defBody sCombined) (defScope sCombined) .none kV32 dc32 pm32 an32 cd32 ct32), sl32⟩)
    (c32 : PySem.W.codeIn K cd32 "Region._combined" = true)
    (k32 : PySem.W.keepIn K (.ref f32) = true)
    (a33 : PySem.W.findIn K (.ref C) "__or__" = some (some (.ref f33)))
    (i33 : PySem.W.isFn K (.ref f33) = true)
    (l33 : K.lookup f33 = some ⟨oc33, od33, .func (PySem.W.fnOf "__or__" "Region.__or__" (defArgs sOr) (defBody sOr) (defScope sOr) .none kV33 dc33 pm33 an33 cd33 ct33), sl33⟩)
    (c33 : PySem.W.codeIn K cd33 "Region.__or__" = true)
    (k33 : PySem.W.keepIn K (.ref f33) = true)
    (a34 : PySem.W.findIn K (.ref C) "__and__" = some (some (.ref f34)))
    (i34 : PySem.W.isFn K (.ref f34) = true)
    (l34 : K.lookup f34 = some ⟨oc34, od34, .func (PySem.W.fnOf "__and__" "Region.__and__" (defArgs sAnd) (defBody sAnd) (defScope sAnd) .none kV34 dc34 pm34 an34 cd34 ct34), sl34⟩)
    (c34 : PySem.W.codeIn K cd34 "Region.__and__" = true)
    (k34 : PySem.W.keepIn K (.ref f34) = true)
    (a35 : PySem.W.findIn K (.ref C) "__sub__" = some (some (.ref f35)))
    (i35 : PySem.W.isFn K (.ref f35) = true)
    (l35 : K.lookup f35 = some ⟨oc35, od35, .func (PySem.W.fnOf "__sub__" "Region.__sub__" (defArgs sSub) (defBody sSub) (defScope sSub) .none kV35 dc35 pm35 an35 cd35 ct35), sl35⟩)
    (c35 : PySem.W.codeIn K cd35 "Region.__sub__" = true)
    (k35 : PySem.W.keepIn K (.ref f35) = true)
    (a36 : PySem.W.findIn K (.ref C) "__xor__" = some (some (.ref f36)))
    (i36 : PySem.W.isFn K (.ref f36) = true)
    (l36 : K.lookup f36 = some ⟨oc36, od36, .func (PySem.W.fnOf "__xor__" "Region.__xor__" (defArgs sXor) (defBody sXor) (defScope sXor) .none kV36 dc36 pm36 an36 cd36 ct36), sl36⟩)
    (c36 : PySem.W.codeIn K cd36 "Region.__xor__" = true)
    (k36 : PySem.W.keepIn K (.ref f36) = true)
    (a37 : PySem.W.findIn K (.ref C) "__invert__" = some (some (.ref f37)))
    (i37 : PySem.W.isFn K (.ref f37) = true)
    (l37 : K.lookup f37 = some ⟨oc37, od37, .func (PySem.W.fnOf "__invert__" "Region.__invert__" (defArgs sInv) (defBody sInv) (defScope sInv) .none kV37 dc37 pm37 an37 cd37 ct37), sl37⟩)
    (c37 : PySem.W.codeIn K cd37 "Region.__invert__" = true)
    (k37 : PySem.W.keepIn K (.ref f37) = true)
    (a38 : PySem.W.findIn K (.ref C) "__contains__" = some (some (.ref f38)))
    (i38 : PySem.W.isFn K (.ref f38) = true)
    (l38 : K.lookup f38 = some ⟨oc38, od38, .func (PySem.W.fnOf "__contains__" "Region.__contains__" (defArgs sContains) (defBody sContains) (defScope sContains) .none kV38 dc38 pm38 an38 cd38 ct38), sl38⟩)
    (c38 : PySem.W.codeIn K cd38 "Region.__contains__" = true)
    (k38 : PySem.W.keepIn K (.ref f38) = true)
    (a39 : PySem.W.findIn K (.ref C) "__bool__" = some (some (.ref f39)))
    (i39 : PySem.W.isFn K (.ref f39) = true)
    (l39 : K.lookup f39 = some ⟨oc39, od39, .func (PySem.W.fnOf "__bool__" "Region.__bool__" (defArgs sBool) (defBody sBool) (defScope sBool) .none kV39 dc39 pm39 an39 cd39 ct39), sl39⟩)
    (c39 : PySem.W.codeIn K cd39 "Region.__bool__" = true)
    (k39 : PySem.W.keepIn K (.ref f39) = true)
    (a40 : PySem.W.findIn K (.ref C) "within" = some (some (.ref f40)))
    (i40 : PySem.W.isFn K (.ref f40) = true)
    (l40 : K.lookup f40 = some ⟨oc40, od40, .func (PySem.W.fnOf "within" "Region.within" (defArgs sWithin) (defBody sWithin) (defScope sWithin) .none kV40 dc40 pm40 an40 cd40 ct40), sl40⟩)
    (c40 : PySem.W.codeIn K cd40 "Region.within" = true)
    (k40 : PySem.W.keepIn K (.ref f40) = true)
    (a41 : PySem.W.findIn K (.ref C) "__eq__" = some (some (.ref f41)))
    (i41 : PySem.W.isFn K (.ref f41) = true)
    (l41 : K.lookup f41 = some ⟨oc41, od41, .func (PySem.W.fnOf "__eq__" "Region.__eq__" (defArgs sEq) (defBody sEq) (defScope sEq) .none kV41 dc41 pm41 an41 cd41 ct41), sl41⟩)
    (c41 : PySem.W.codeIn K cd41 "Region.__eq__" = true)
    (k41 : PySem.W.keepIn K (.ref f41) = true)
    (a42 : PySem.W.findIn K (.ref C) "__repr__" = some (some (.ref f42)))
    (i42 : PySem.W.isFn K (.ref f42) = true)
    (l42 : K.lookup f42 = some ⟨oc42, od42, .func (PySem.W.fnOf "__repr__" "Region.__repr__" (defArgs sRepr) (defBody sRepr) (defScope sRepr) .none kV42 dc42 pm42 an42 cd42 ct42), sl42⟩)
    (c42 : PySem.W.codeIn K cd42 "Region.__repr__" = true)
    (k42 : PySem.W.keepIn K (.ref f42) = true)
    (pg : PySem.W.plainGet K C Str.empty = true)
    (hd : PySem.W.hasDictIn K C = true)
    (po : PySem.W.plainOver K C = true)
    (sa : PySem.W.findIn K (.ref C) "__setattr__" = some (some (.builtin "object.__setattr__")))
    (mk : PySem.W.makesIn K C = true)
    (kc : PySem.W.keepIn K (.ref C) = true)
    (nS : PySem.W.findIn K (.ref C) "_slabs" = some none)
    (nB : PySem.W.findIn K (.ref C) "_is_bounded" = some none)
    (xa : PySem.W.findIn K (.ref C) "__class__" = some (some (.builtin "object.__class__")))
    (xn : PySem.W.specialIn K (.builtin "object.__class__") "__get__" = some (some (.builtin "getset_descriptor.__get__")))
    (xt : PySem.W.takesIn K (.builtin "object.__class__") = some true)
    (xm : PySem.W.mroIn K C (.type "object") = some true)
    (yn : PySem.W.findIn K (.ref C) "__ne__" = some (some (.builtin "object.__ne__")))
    (sf : PySem.W.selfFirst K C = true)
    (rr : PySem.W.readsIn K C (.type "type") = true)
    (rg : PySem.W.specialIn K (.ref C) "__getattribute__" = some (some (.builtin "type.__getattribute__")))
    (eA_EITHER : PySem.W.nsIn K mainGlobals "EITHER" = some (some (.ref e_EITHER)))
    (eL_EITHER : K.lookup e_EITHER = some ⟨.type "tuple", od_EITHER, .seq #[.bool false, .bool true, .bool true, .bool true] n_EITHER, sl_EITHER⟩)
    (eA_BOTH : PySem.W.nsIn K mainGlobals "BOTH" = some (some (.ref e_BOTH)))
    (eL_BOTH : K.lookup e_BOTH = some ⟨.type "tuple", od_BOTH, .seq #[.bool false, .bool false, .bool false, .bool true] n_BOTH, sl_BOTH⟩)
    (eA_ONLY_FIRST : PySem.W.nsIn K mainGlobals "ONLY_FIRST" = some (some (.ref e_ONLY_FIRST)))
    (eL_ONLY_FIRST : K.lookup e_ONLY_FIRST = some ⟨.type "tuple", od_ONLY_FIRST, .seq #[.bool false, .bool false, .bool true, .bool false] n_ONLY_FIRST, sl_ONLY_FIRST⟩)
    (eA_EXACTLY_ONE : PySem.W.nsIn K mainGlobals "EXACTLY_ONE" = some (some (.ref e_EXACTLY_ONE)))
    (eL_EXACTLY_ONE : K.lookup e_EXACTLY_ONE = some ⟨.type "tuple", od_EXACTLY_ONE, .seq #[.bool false, .bool true, .bool true, .bool false] n_EXACTLY_ONE, sl_EXACTLY_ONE⟩)
    (nl : PySem.W.notFirst K C (.type "list") = true)
    (ns : PySem.W.notFirst K C (.type "str") = true)
    (ic : PySem.W.isClsIn K C = true)
    (tc : PySem.W.typeIn K (.ref C) = some (.type "type"))
    (kl : PySem.W.subIn K (.type "list") (.ref C) = some false)
    (ks : PySem.W.subIn K (.type "str") (.ref C) = some false)
    (z0 : PySem.W.nsIn K mainGlobals "isinstance" = some none)
    (z1 : PySem.W.nsIn K mainGlobals "int" = some none)
    (z2 : PySem.W.nsIn K mainGlobals "bool" = some none)
    (z3 : PySem.W.nsIn K mainGlobals "tuple" = some none)
    (z4 : PySem.W.nsIn K mainGlobals "len" = some none)
    (z5 : PySem.W.nsIn K mainGlobals "all" = some none)
    (z6 : PySem.W.nsIn K mainGlobals "any" = some none)
    (z7 : PySem.W.nsIn K mainGlobals "list" = some none)
    (z8 : PySem.W.nsIn K mainGlobals "sorted" = some none)
    (z9 : PySem.W.nsIn K mainGlobals "set" = some none)
    (z10 : PySem.W.nsIn K mainGlobals "range" = some none)
    (z11 : PySem.W.nsIn K mainGlobals "zip" = some none)
    (z12 : PySem.W.nsIn K mainGlobals "min" = some none)
    (z13 : PySem.W.nsIn K mainGlobals "max" = some none)
    (z14 : PySem.W.nsIn K mainGlobals "repr" = some none) :
    ∃ fd : FuncData, (∀ (s : Shared) (v : Value), BindsTo s fd ⟨[v], []⟩ [("_law_script", v)]) ∧ ∀ base : Heap, K.In base → base.Ns mainGlobals mg → FnG l.prog w K mg base CX0 16 fa fd ["_law_script"] (spLaw K) := by
  have e := hfa.symm.trans (PySem.W.mg_of X G a25)
  cases e
  have F0 := fun_mk (st := sWhole) l0 c0 k0
  have b0 := F0.binds (ps := ["thing"]) fun _ _ _ _ _ _ us hl => match us, hl with | [_], _ => rfl
  have m0 := PySem.W.mg_of X G a0
  have F1 := fun_mk (st := sAre) l1 c1 k1
  have b1 := F1.binds (ps := ["thing", "many"]) fun _ _ _ _ _ _ us hl => match us, hl with | [_, _], _ => rfl
  have m1 := PySem.W.mg_of X G a1
  have F2 := fun_mk (st := sSq) l2 c2 k2
  have b2 := F2.binds (ps := ["thing"]) fun _ _ _ _ _ _ us hl => match us, hl with | [_], _ => rfl
  have m2 := PySem.W.mg_of X G a2
  have F3 := fun_mk (st := sBox) l3 c3 k3
  have b3 := F3.binds (ps := ["thing"]) fun _ _ _ _ _ _ us hl => match us, hl with | [_], _ => rfl
  have m3 := PySem.W.mg_of X G a3
  have F4 := fun_mk (st := sComb) l4 c4 k4
  have b4 := F4.binds (ps := ["one", "other", "kept"]) fun _ _ _ _ _ _ us hl => match us, hl with | [_, _, _], _ => rfl
  have m4 := PySem.W.mg_of X G a4
  have F5 := fun_mk (st := sSteps) l5 c5 k5
  have b5 := F5.binds (ps := ["slabs"]) fun _ _ _ _ _ _ us hl => match us, hl with | [_], _ => rfl
  have m5 := PySem.W.mg_of X G a5
  have F6 := fun_mk (st := sForm) l6 c6 k6
  have b6 := F6.binds (ps := ["steps"]) fun _ _ _ _ _ _ us hl => match us, hl with | [_], _ => rfl
  have m6 := PySem.W.mg_of X G a6
  have F7 := fun_mk (st := sCmb) l7 c7 k7
  have b7 := F7.binds (ps := ["one", "other", "kept"]) fun _ _ _ _ _ _ us hl => match us, hl with | [_, _, _], _ => rfl
  have m7 := PySem.W.mg_of X G a7
  have F8 := fun_mk (st := sBoxes) l8 c8 k8
  have b8 := F8.binds (ps := ["boxes"]) fun _ _ _ _ _ _ us hl => match us, hl with | [_], _ => rfl
  have m8 := PySem.W.mg_of X G a8
  have F9 := fun_mk (st := sAt) l9 c9 k9
  have b9 := F9.binds (ps := ["slabs", "x"]) fun _ _ _ _ _ _ us hl => match us, hl with | [_, _], _ => rfl
  have m9 := PySem.W.mg_of X G a9
  have F10 := fun_mk (st := sHas) l10 c10 k10
  have b10 := F10.binds (ps := ["slabs", "x", "y"]) fun _ _ _ _ _ _ us hl => match us, hl with | [_, _, _], _ => rfl
  have m10 := PySem.W.mg_of X G a10
  have F11 := fun_mk (st := sCheck) l11 c11 k11
  have b11 := F11.binds (ps := ["thing"]) fun _ _ _ _ _ _ us hl => match us, hl with | [_], _ => rfl
  have m11 := PySem.W.mg_of X G a11
  have F12 := fun_mk (st := sCheckSq) l12 c12 k12
  have b12 := F12.binds (ps := ["thing"]) fun _ _ _ _ _ _ us hl => match us, hl with | [_], _ => rfl
  have m12 := PySem.W.mg_of X G a12
  have F13 := fun_mk (st := sPool) l13 c13 k13
  have b13 := F13.binds (ps := ["_law_script", "_law_k"]) fun _ _ _ _ _ _ us hl => match us, hl with | [_, _], _ => rfl
  have m13 := PySem.W.mg_of X G a13
  have F14 := fun_mk (st := sTake) l14 c14 k14
  have b14 := F14.binds (ps := ["_law_pool_here", "_law_sides"]) fun _ _ _ _ _ _ us hl => match us, hl with | [_, _], _ => rfl
  have m14 := PySem.W.mg_of X G a14
  have F15 := fun_mk (st := sLines) l15 c15 k15
  have b15 := F15.binds (ps := ["_law_pool_here", "_law_many"]) fun _ _ _ _ _ _ us hl => match us, hl with | [_, _], _ => rfl
  have m15 := PySem.W.mg_of X G a15
  have F16 := fun_mk (st := sDrawn) l16 c16 k16
  have b16 := F16.binds (ps := ["_law_pool_here", "_law_xs", "_law_ys", "_law_most"]) fun _ _ _ _ _ _ us hl => match us, hl with | [_, _, _, _], _ => rfl
  have m16 := PySem.W.mg_of X G a16
  have F17 := fun_mk (st := sHasL) l17 c17 k17
  have b17 := F17.binds (ps := ["_law_boxes_here", "_law_square"]) fun _ _ _ _ _ _ us hl => match us, hl with | [_, _], _ => rfl
  have m17 := PySem.W.mg_of X G a17
  have F18 := fun_mk (st := sProbes) l18 c18 k18
  have b18 := F18.binds (ps := ["_law_xs", "_law_ys"]) fun _ _ _ _ _ _ us hl => match us, hl with | [_, _], _ => rfl
  have m18 := PySem.W.mg_of X G a18
  have F19 := fun_mk (st := sL_drawn) l19 c19 k19
  have b19 := F19.binds (ps := ["_law_pool_here", "_law_xs", "_law_ys"]) fun _ _ _ _ _ _ us hl => match us, hl with | [_, _, _], _ => rfl
  have m19 := PySem.W.mg_of X G a19
  have F20 := fun_mk (st := sL_in) l20 c20 k20
  have b20 := F20.binds (ps := ["_law_one", "_law_square"]) fun _ _ _ _ _ _ us hl => match us, hl with | [_, _], _ => rfl
  have m20 := PySem.W.mg_of X G a20
  have F21 := fun_mk (st := sIsSpans) l21 c21 k21
  have b21 := F21.binds (ps := ["_law_spans"]) fun _ _ _ _ _ _ us hl => match us, hl with | [_], _ => rfl
  have m21 := PySem.W.mg_of X G a21
  have F22 := fun_mk (st := sIsForm) l22 c22 k22
  have b22 := F22.binds (ps := ["_law_form"]) fun _ _ _ _ _ _ us hl => match us, hl with | [_], _ => rfl
  have m22 := PySem.W.mg_of X G a22
  have F23 := fun_mk (st := sRight) l23 c23 k23
  have b23 := F23.binds (ps := ["_law_one", "_law_other", "_law_probes_here"]) fun _ _ _ _ _ _ us hl => match us, hl with | [_, _, _], _ => rfl
  have m23 := PySem.W.mg_of X G a23
  have F24 := fun_mk (st := sL_alike) l24 c24 k24
  have b24 := F24.binds (ps := ["_law_a", "_law_b", "_law_c"]) fun _ _ _ _ _ _ us hl => match us, hl with | [_, _, _], _ => rfl
  have m24 := PySem.W.mg_of X G a24
  have F25 := fun_mk (st := sLaw) l25 c25 k25
  have F26 := fun_mk (st := sInit) l26 c26 k26
  have b26 := F26.binds (ps := ["self", "slabs", "is_bounded"]) fun _ _ _ _ _ _ us hl => match us, hl with | [_, _, _], _ => rfl
  have F27 := fun_mk (st := sOf) l27 c27 k27
  have F28 := fun_mk (st := sEmpty) l28 c28 k28
  have b28 := F28.binds (ps := []) fun _ _ _ _ _ _ us hl => match us, hl with | [], _ => rfl
  have F29 := fun_mk (st := sEvery) l29 c29 k29
  have b29 := F29.binds (ps := []) fun _ _ _ _ _ _ us hl => match us, hl with | [], _ => rfl
  have F30 := fun_mk (st := sIsB) l30 c30 k30
  have b30 := F30.binds (ps := ["self"]) fun _ _ _ _ _ _ us hl => match us, hl with | [_], _ => rfl
  have F31 := fun_mk (st := sSlabs) l31 c31 k31
  have b31 := F31.binds (ps := ["self"]) fun _ _ _ _ _ _ us hl => match us, hl with | [_], _ => rfl
  have F32 := fun_mk (st := sCombined) l32 c32 k32
  have b32 := F32.binds (ps := ["self", "other", "kept"]) fun _ _ _ _ _ _ us hl => match us, hl with | [_, _, _], _ => rfl
  have F33 := fun_mk (st := sOr) l33 c33 k33
  have b33 := F33.binds (ps := ["self", "other"]) fun _ _ _ _ _ _ us hl => match us, hl with | [_, _], _ => rfl
  have F34 := fun_mk (st := sAnd) l34 c34 k34
  have b34 := F34.binds (ps := ["self", "other"]) fun _ _ _ _ _ _ us hl => match us, hl with | [_, _], _ => rfl
  have F35 := fun_mk (st := sSub) l35 c35 k35
  have b35 := F35.binds (ps := ["self", "other"]) fun _ _ _ _ _ _ us hl => match us, hl with | [_, _], _ => rfl
  have F36 := fun_mk (st := sXor) l36 c36 k36
  have b36 := F36.binds (ps := ["self", "other"]) fun _ _ _ _ _ _ us hl => match us, hl with | [_, _], _ => rfl
  have F37 := fun_mk (st := sInv) l37 c37 k37
  have b37 := F37.binds (ps := ["self"]) fun _ _ _ _ _ _ us hl => match us, hl with | [_], _ => rfl
  have F38 := fun_mk (st := sContains) l38 c38 k38
  have b38 := F38.binds (ps := ["self", "square"]) fun _ _ _ _ _ _ us hl => match us, hl with | [_, _], _ => rfl
  have F39 := fun_mk (st := sBool) l39 c39 k39
  have b39 := F39.binds (ps := ["self"]) fun _ _ _ _ _ _ us hl => match us, hl with | [_], _ => rfl
  have F40 := fun_mk (st := sWithin) l40 c40 k40
  have b40 := F40.binds (ps := ["self", "other"]) fun _ _ _ _ _ _ us hl => match us, hl with | [_, _], _ => rfl
  have F41 := fun_mk (st := sEq) l41 c41 k41
  have b41 := F41.binds (ps := ["self", "other"]) fun _ _ _ _ _ _ us hl => match us, hl with | [_, _], _ => rfl
  have F42 := fun_mk (st := sRepr) l42 c42 k42
  have b42 := F42.binds (ps := ["self"]) fun _ _ _ _ _ _ us hl => match us, hl with | [_], _ => rfl
  have M_isinstance := PySem.W.mg_none_of X G z0
  have M_int := PySem.W.mg_none_of X G z1
  have M_bool := PySem.W.mg_none_of X G z2
  have M_tuple := PySem.W.mg_none_of X G z3
  have M_len := PySem.W.mg_none_of X G z4
  have M_all := PySem.W.mg_none_of X G z5
  have M_any := PySem.W.mg_none_of X G z6
  have M_list := PySem.W.mg_none_of X G z7
  have M_sorted := PySem.W.mg_none_of X G z8
  have M_set := PySem.W.mg_none_of X G z9
  have M_range := PySem.W.mg_none_of X G z10
  have M_zip := PySem.W.mg_none_of X G z11
  have M_min := PySem.W.mg_none_of X G z12
  have M_max := PySem.W.mg_none_of X G z13
  have M_repr := PySem.W.mg_none_of X G z14
  refine ⟨PySem.W.fnOf "law" "law" (defArgs sLaw) (defBody sLaw) (defScope sLaw) .none kV25 dc25 pm25 an25 cd25 ct25, fun s v => .of_eq rfl, fun base _ _ => ?_⟩
  have T : RTxt K mg C := ⟨⟨pg, hd, po, sa⟩, nS, nB, PySem.W.mg_of X G aC⟩
  have is : RIs K C := ⟨⟨pg, hd, po, sa⟩, xa, xn, xt, xm⟩
  have Mk' : L2.Mk K C f26 := ⟨mk, a26, i26, kc⟩
  have kE_EITHER : KTup K mg "EITHER" kOr := ⟨e_EITHER, PySem.W.mg_of X G eA_EITHER, fun H => .tup (.inr ⟨_, _, n_EITHER, eL_EITHER, rfl, rfl, by decide, .cons (show L2.RelV (.bl false) (.bool false) from rfl) (.cons (show L2.RelV (.bl true) (.bool true) from rfl) (.cons (show L2.RelV (.bl true) (.bool true) from rfl) (.cons (show L2.RelV (.bl true) (.bool true) from rfl) (.nil))))⟩) (.cons (.bl _) (.cons (.bl _) (.cons (.bl _) (.cons (.bl _) .nil))))⟩
  have kE_BOTH : KTup K mg "BOTH" kAnd := ⟨e_BOTH, PySem.W.mg_of X G eA_BOTH, fun H => .tup (.inr ⟨_, _, n_BOTH, eL_BOTH, rfl, rfl, by decide, .cons (show L2.RelV (.bl false) (.bool false) from rfl) (.cons (show L2.RelV (.bl false) (.bool false) from rfl) (.cons (show L2.RelV (.bl false) (.bool false) from rfl) (.cons (show L2.RelV (.bl true) (.bool true) from rfl) (.nil))))⟩) (.cons (.bl _) (.cons (.bl _) (.cons (.bl _) (.cons (.bl _) .nil))))⟩
  have kE_ONLY_FIRST : KTup K mg "ONLY_FIRST" kSub := ⟨e_ONLY_FIRST, PySem.W.mg_of X G eA_ONLY_FIRST, fun H => .tup (.inr ⟨_, _, n_ONLY_FIRST, eL_ONLY_FIRST, rfl, rfl, by decide, .cons (show L2.RelV (.bl false) (.bool false) from rfl) (.cons (show L2.RelV (.bl false) (.bool false) from rfl) (.cons (show L2.RelV (.bl true) (.bool true) from rfl) (.cons (show L2.RelV (.bl false) (.bool false) from rfl) (.nil))))⟩) (.cons (.bl _) (.cons (.bl _) (.cons (.bl _) (.cons (.bl _) .nil))))⟩
  have kE_EXACTLY_ONE : KTup K mg "EXACTLY_ONE" kXor := ⟨e_EXACTLY_ONE, PySem.W.mg_of X G eA_EXACTLY_ONE, fun H => .tup (.inr ⟨_, _, n_EXACTLY_ONE, eL_EXACTLY_ONE, rfl, rfl, by decide, .cons (show L2.RelV (.bl false) (.bool false) from rfl) (.cons (show L2.RelV (.bl true) (.bool true) from rfl) (.cons (show L2.RelV (.bl true) (.bool true) from rfl) (.cons (show L2.RelV (.bl false) (.bool false) from rfl) (.nil))))⟩) (.cons (.bl _) (.cons (.bl _) (.cons (.bl _) (.cons (.bl _) .nil))))⟩
  have O_sAre : FnOk l.prog w K mg base CX0 2 f1 _ ["thing", "many"] (spAre K) := ok_are (k := 0) F1 F0 b0 m0 M_isinstance M_int M_bool M_tuple M_len M_all
  have O_sSq : FnOk l.prog w K mg base CX0 3 f2 _ ["thing"] (spSq K) := ok_sq F2 O_sAre k1 b1 m1
  have O_sBox : FnOk l.prog w K mg base CX0 3 f3 _ ["thing"] (spBox K) := ok_box F3 O_sAre k1 b1 m1
  have O_sComb : FnOk l.prog w K mg base CX0 1 f4 _ ["one", "other", "kept"] (spComb K) := ok_comb F4 M_sorted M_tuple M_range M_len
  have O_sSteps : FnOk l.prog w K mg base CX0 1 f5 _ ["slabs"] (spSteps K) := ok_steps F5
  have O_sForm : FnOk l.prog w K mg base CX0 1 f6 _ ["steps"] (spForm K) := ok_form F6 M_zip M_tuple
  have O_sCmb : FnOk l.prog w K mg base CX0 2 f7 _ ["one", "other", "kept"] (spCmb K) := ok_cmb F7 O_sSteps k5 b5 m5 O_sComb k4 b4 m4 O_sForm k6 b6 m6 M_sorted M_set M_list
  have O_sBoxes : FnOk l.prog w K mg base CX0 3 f8 _ ["boxes"] (spBoxes K) := ok_boxes F8 O_sCmb k7 b7 m7 kE_EITHER M_int M_len M_zip
  have O_sAt : FnOk l.prog w K mg base CX0 1 f9 _ ["slabs", "x"] (spAt K) := ok_at F9
  have O_sHas : FnOk l.prog w K mg base CX0 2 f10 _ ["slabs", "x", "y"] (spHas K) := ok_has F10 O_sAt k9 b9 m9 M_any
  have O_sInit : FnOk l.prog w K mg base CX0 1 f26 _ ["self", "slabs", "is_bounded"] (spInit K C) := ok_init F26 T
  have O_sEmpty : FnOk l.prog w K mg base CX0 3 f28 _ [] (spConst K C true) := ok_empty (n := 1) F28 T Mk' O_sInit b26
  have O_sEvery : FnOk l.prog w K mg base CX0 3 f29 _ [] (spConst K C false) := ok_every (n := 1) F29 T Mk' O_sInit b26
  have O_sIsB : FnOk l.prog w K mg base CX0 1 f30 _ ["self"] (spIsB K C) := ok_isB F30 T
  have O_sSlabs : FnOk l.prog w K mg base CX0 1 f31 _ ["self"] (spSlabs K C) := ok_slabs F31 T M_list
  have O_sCheck : FnOk l.prog w K mg base CX0 1 f11 _ ["thing"] (spCheck K C) := ok_check F11 T is M_isinstance
  have O_sCombined : FnOk l.prog w K mg base CX0 3 f32 _ ["self", "other", "kept"] (spCombined K C) := ok_combined (n := 1) F32 T (O_sCheck.mono (by decide)) k11 b11 m11 O_sCmb k7 b7 m7 Mk' O_sInit b26 M_range M_tuple
  have O_sOr : FnOk l.prog w K mg base CX0 4 f33 _ ["self", "other"] (spOp K C kOr) := ok_or F33 T O_sCombined ⟨a32, i32, k32⟩ b32 kE_EITHER
  have O_sAnd : FnOk l.prog w K mg base CX0 4 f34 _ ["self", "other"] (spOp K C kAnd) := ok_and F34 T O_sCombined ⟨a32, i32, k32⟩ b32 kE_BOTH
  have O_sSub : FnOk l.prog w K mg base CX0 4 f35 _ ["self", "other"] (spOp K C kSub) := ok_sub F35 T O_sCombined ⟨a32, i32, k32⟩ b32 kE_ONLY_FIRST
  have O_sXor : FnOk l.prog w K mg base CX0 4 f36 _ ["self", "other"] (spOp K C kXor) := ok_xor F36 T O_sCombined ⟨a32, i32, k32⟩ b32 kE_EXACTLY_ONE
  have O_sInv : FnOk l.prog w K mg base CX0 3 f37 _ ["self"] (spInv K C) := ok_inv (n := 1) F37 T Mk' O_sInit b26
  have O_sCheckSq : FnOk l.prog w K mg base CX0 4 f12 _ ["thing"] (spCheckSq K) := ok_checkSq F12 O_sSq k2 b2 m2
  have O_sContains : FnOk l.prog w K mg base CX0 5 f38 _ ["self", "square"] (spContains K C) := ok_contains F38 T O_sCheckSq k12 b12 m12 (O_sHas.mono (by decide)) k10 b10 m10
  have O_sEq : FnOk l.prog w K mg base CX0 1 f41 _ ["self", "other"] (spEqR K C) := ok_eq F41 T is M_isinstance
  have GOf : FnR l.prog w K mg base CX0 5 f27 (spOf K C) := ok_of (n := 3) F27 T Mk' (O_sInit.mono (by decide)) b26 (O_sBox.mono (by decide)) k3 b3 m3 (O_sBoxes.mono (by decide)) k8 b8 m8
  have RC : RCe l.prog w K mg base C 5 := ⟨T, sf, ⟨.type "type", ⟨rr, rg⟩, ⟨p28, f28, ⟨a28, ⟨_, e28⟩, k28⟩, (FnOk.raw O_sEmpty b28 .nil).imp (fun vs H Q E h => by simpa using h) |>.mono (by decide)⟩, p27, f27, ⟨a27, ⟨_, e27⟩, n27⟩, GOf.mono (by decide)⟩, ⟨f33, ⟨a33, i33⟩, (FnOk.raw O_sOr b33 .nil).imp (fun vs H Q E h => by simpa using h) |>.mono (by decide)⟩⟩
  have RI : RInv l.prog w K mg base C 5 := ⟨f37, ⟨a37, i37⟩, (FnOk.raw O_sInv b37 .nil).imp (fun vs H Q E h => by simpa using h) |>.mono (by decide)⟩
  have q0 : REq K C := ⟨nl, ns, kit_no ic tc kl, kit_no ic tc ks⟩
  have O_sTake : FnOk l.prog w K mg base CX0 1 f14 _ ["_law_pool_here", "_law_sides"] (spTake K) := ok_take F14
  have O_sPool : FnOk l.prog w K mg base CX0 1 f13 _ ["_law_script", "_law_k"] (spPool K) := ok_pool F13 M_len
  have O_sLines : FnOk l.prog w K mg base CX0 2 f15 _ ["_law_pool_here", "_law_many"] (spLines K) := ok_lines F15 O_sTake k14 b14 m14 M_len
  have O_sDrawn : FnOk l.prog w K mg base CX0 2 f16 _ ["_law_pool_here", "_law_xs", "_law_ys", "_law_most"] (spDrawn K) := ok_drawn F16 O_sTake k14 b14 m14 M_len M_range
  have O_sHasL : FnOk l.prog w K mg base CX0 1 f17 _ ["_law_boxes_here", "_law_square"] (spHasL K) := ok_hasL F17
  have O_sProbes : FnOk l.prog w K mg base CX0 1 f18 _ ["_law_xs", "_law_ys"] (spProbes K) := ok_probes F18
  have O_sIsSpans : FnOk l.prog w K mg base CX0 1 f21 _ ["_law_spans"] (spIsSpans K) := ok_isSpans F21 M_isinstance M_list M_tuple M_len M_range
  have O_sIsForm : FnOk l.prog w K mg base CX0 2 f22 _ ["_law_form"] (spIsForm K) := ok_isForm F22 O_sIsSpans k21 b21 m21 M_isinstance M_tuple M_len M_range
  have O_sL_drawn : FnOk l.prog w K mg base CX0 6 f19 _ ["_law_pool_here", "_law_xs", "_law_ys"] (spDr K C) := ok_dr F19 RC RI (O_sDrawn.mono (by decide)) k16 b16 m16 (O_sTake.mono (by decide)) k14 b14 m14
  have O_sL_in : FnOk l.prog w K mg base CX0 2 f20 _ ["_law_one", "_law_square"] (spInL K) := ok_inL F20 O_sHasL k17 b17 m17
  have O_sBool : FnOk l.prog w K mg base CX0 1 f39 _ ["self"] (spBool K C) := ok_bool F39 T M_bool
  have RO : ROps l.prog w K mg base C 8 := ⟨T, sf, ⟨f33, ⟨a33, i33⟩, (FnOk.raw O_sOr b33 .nil).imp (fun vs H Q E h => by simpa using h) |>.mono (by decide)⟩, ⟨f34, ⟨a34, i34⟩, (FnOk.raw O_sAnd b34 .nil).imp (fun vs H Q E h => by simpa using h) |>.mono (by decide)⟩, ⟨f35, ⟨a35, i35⟩, (FnOk.raw O_sSub b35 .nil).imp (fun vs H Q E h => by simpa using h) |>.mono (by decide)⟩, ⟨f36, ⟨a36, i36⟩, (FnOk.raw O_sXor b36 .nil).imp (fun vs H Q E h => by simpa using h) |>.mono (by decide)⟩, ⟨f37, ⟨a37, i37⟩, (FnOk.raw O_sInv b37 .nil).imp (fun vs H Q E h => by simpa using h) |>.mono (by decide)⟩, ⟨f41, ⟨a41, i41⟩, (FnOk.raw O_sEq b41 .nil).imp (fun vs H Q E h => by simpa using h) |>.mono (by decide)⟩, ⟨yn, xm⟩⟩
  have O_sWithin : FnOk l.prog w K mg base CX0 11 f40 _ ["self", "other"] (spWithin K C) := ok_within (n := 8) F40 T sf M_bool ⟨a39, i39⟩ ((FnOk.raw O_sBool b39 .nil).imp (fun vs H Q E h => by simpa using h) |>.mono (by decide)) ⟨a35, i35⟩ ((FnOk.raw O_sSub b35 .nil).imp (fun vs H Q E h => by simpa using h) |>.mono (by decide))
  have GRt : FnG l.prog w K mg base CX0 12 f23 _ ["_law_one", "_law_other", "_law_probes_here"] (spRight5 K C) := ok_right5 (n := 8) F23 RO (O_sL_in.mono (by decide)) k20 b20 m20 (O_sIsForm.mono (by decide)) k22 b22 m22 ⟨a38, i38⟩ ((FnOk.raw O_sContains b38 .nil).imp (fun vs H Q E h => by simpa using h) |>.mono (by decide)) ⟨a31, g31, t31, ⟨_, e31⟩⟩ (O_sSlabs.mono (by decide)) b31 ⟨a30, g30, t30, ⟨_, e30⟩⟩ (O_sIsB.mono (by decide)) b30 ⟨a39, i39⟩ ((FnOk.raw O_sBool b39 .nil).imp (fun vs H Q E h => by simpa using h) |>.mono (by decide)) ⟨a40, i40, k40⟩ O_sWithin b40 M_bool M_repr
  have RCo : RCon l.prog w K mg base C 8 := ⟨.type "type", ⟨rr, rg⟩, ⟨p28, f28, ⟨a28, ⟨_, e28⟩, k28⟩, (FnOk.raw O_sEmpty b28 .nil).imp (fun vs H Q E h => by simpa using h) |>.mono (by decide)⟩, ⟨p29, f29, ⟨a29, ⟨_, e29⟩, k29⟩, (FnOk.raw O_sEvery b29 .nil).imp (fun vs H Q E h => by simpa using h) |>.mono (by decide)⟩⟩
  have O_sL_alike : FnOk l.prog w K mg base CX0 10 f24 _ ["_law_a", "_law_b", "_law_c"] (spAlike K C) := ok_alike (n := 8) F24 RO RCo
  have RO' : ROps l.prog w K mg base C 11 := ⟨T, sf, ⟨f33, ⟨a33, i33⟩, (FnOk.raw O_sOr b33 .nil).imp (fun vs H Q E h => by simpa using h) |>.mono (by decide)⟩, ⟨f34, ⟨a34, i34⟩, (FnOk.raw O_sAnd b34 .nil).imp (fun vs H Q E h => by simpa using h) |>.mono (by decide)⟩, ⟨f35, ⟨a35, i35⟩, (FnOk.raw O_sSub b35 .nil).imp (fun vs H Q E h => by simpa using h) |>.mono (by decide)⟩, ⟨f36, ⟨a36, i36⟩, (FnOk.raw O_sXor b36 .nil).imp (fun vs H Q E h => by simpa using h) |>.mono (by decide)⟩, ⟨f37, ⟨a37, i37⟩, (FnOk.raw O_sInv b37 .nil).imp (fun vs H Q E h => by simpa using h) |>.mono (by decide)⟩, ⟨f41, ⟨a41, i41⟩, (FnOk.raw O_sEq b41 .nil).imp (fun vs H Q E h => by simpa using h) |>.mono (by decide)⟩, ⟨yn, xm⟩⟩
  have OX : FnOk l.prog w K mg base CX0 1 f41 _ ["self", "other"] (spEqX K C) := ok_eqX F41 T q0 M_isinstance
  have GP1 : FnG l.prog w K mg base CX0 11 f42 _ ["self"] (spRepr K C) := ok_repr (n := 9) F42 T ⟨a31, g31, t31, ⟨_, e31⟩⟩ (O_sSlabs.mono (by decide)) b31
  have GPd : ∀ d : Addr, FnD (some d) l.prog w K mg base CX0 11 f42 _ ["self"] (spReprD (some d) K C) := fun d => ok_reprD (n := 9) (some d) F42 T ⟨a31, g31, t31, ⟨_, e31⟩⟩ (O_sSlabs.mono (by decide)) b31
  exact ok_law (n := 11) F25 RO' q0 (O_sPool.mono (by decide)) k13 b13 m13 (O_sTake.mono (by decide)) k14 b14 m14 (O_sLines.mono (by decide)) k15 b15 m15 (O_sProbes.mono (by decide)) k18 b18 m18 (O_sL_drawn.mono (by decide)) k19 b19 m19 (O_sL_alike.mono (by decide)) k24 b24 m24 (GRt.up (by decide)) k23 b23 m23 ⟨a31, g31, t31, ⟨_, e31⟩⟩ (O_sSlabs.mono (by decide)) b31 ⟨a41, i41⟩ ((FnOk.raw O_sEq b41 .nil).imp (fun vs H Q E h => by simpa using h) |>.mono (by decide)) ((FnOk.raw OX b41 .nil).imp (fun vs H Q E h => by simpa using h) |>.mono (by decide)) ⟨a42, i42⟩ GP1 GPd b42 M_range M_max M_min M_len M_repr M_int
end Vf
open PySem PySem.W PyProof.Rows
set_option maxHeartbeats 0 in
theorem PySem.Challenge.cw_boxregions_k05_whole_operators_holds : PySem.Challenge.rw_boxregions_k05_whole_operators.Holds := by
  w_on; o_law; k_head; (case hw => w_witness2)
  k_fill
  refine Vf.walkG (l := PySem.Challenge.rw_boxregions_k05_whole_operators) (n := 63) (k := 16) (x := "_law_script") (CX := L2.CX0) (sp := Vf.spLaw) rfl (by decide) rfl ⟨rfl, by decide, by decide⟩ (fun w h Y => PySem.W.kIn_of Y) ?F (fun K H a ns hl _ hS => ⟨a, ns, rfl, hS, hl, fun _ => rfl⟩) (fun _ _ _ _ h => h)
  case F =>
    intro w mg fa h KX G hmg
    refine' Vf.all_mk KX G hmg ?aC ?a0 ?l0 ?c0 ?k0 ?a1 ?l1 ?c1 ?k1 ?a2 ?l2 ?c2 ?k2 ?a3 ?l3 ?c3 ?k3 ?a4 ?l4 ?c4 ?k4 ?a5 ?l5 ?c5 ?k5 ?a6 ?l6 ?c6 ?k6 ?a7 ?l7 ?c7 ?k7 ?a8 ?l8 ?c8 ?k8 ?a9 ?l9 ?c9 ?k9 ?a10 ?l10 ?c10 ?k10 ?a11 ?l11 ?c11 ?k11 ?a12 ?l12 ?c12 ?k12 ?a13 ?l13 ?c13 ?k13 ?a14 ?l14 ?c14 ?k14 ?a15 ?l15 ?c15 ?k15 ?a16 ?l16 ?c16 ?k16 ?a17 ?l17 ?c17 ?k17 ?a18 ?l18 ?c18 ?k18 ?a19 ?l19 ?c19 ?k19 ?a20 ?l20 ?c20 ?k20 ?a21 ?l21 ?c21 ?k21 ?a22 ?l22 ?c22 ?k22 ?a23 ?l23 ?c23 ?k23 ?a24 ?l24 ?c24 ?k24 ?a25 ?l25 ?c25 ?k25 ?a26 ?i26 ?l26 ?c26 ?k26 ?a27 ?e27 ?n27 ?l27 ?c27 ?k27 ?a28 ?e28 ?l28 ?c28 ?k28 ?a29 ?e29 ?l29 ?c29 ?k29 ?a30 ?g30 ?t30 ?e30 ?l30 ?c30 ?k30 ?a31 ?g31 ?t31 ?e31 ?l31 ?c31 ?k31 ?a32 ?i32 ?l32 ?c32 ?k32 ?a33 ?i33 ?l33 ?c33 ?k33 ?a34 ?i34 ?l34 ?c34 ?k34 ?a35 ?i35 ?l35 ?c35 ?k35 ?a36 ?i36 ?l36 ?c36 ?k36 ?a37 ?i37 ?l37 ?c37 ?k37 ?a38 ?i38 ?l38 ?c38 ?k38 ?a39 ?i39 ?l39 ?c39 ?k39 ?a40 ?i40 ?l40 ?c40 ?k40 ?a41 ?i41 ?l41 ?c41 ?k41 ?a42 ?i42 ?l42 ?c42 ?k42 ?pg ?hd ?po ?sa ?mk ?kc ?nS ?nB ?xa ?xn ?xt ?xm ?yn ?sf ?rr ?rg ?eA_EITHER ?eL_EITHER ?eA_BOTH ?eL_BOTH ?eA_ONLY_FIRST ?eL_ONLY_FIRST ?eA_EXACTLY_ONE ?eL_EXACTLY_ONE ?nl ?ns ?ic ?tc ?kl ?ks ?z0 ?z1 ?z2 ?z3 ?z4 ?z5 ?z6 ?z7 ?z8 ?z9 ?z10 ?z11 ?z12 ?z13 ?z14
    (case aC => k_is)
    (case a0 => k_is)
    (case l0 => k_is)
    (case c0 => k_is)
    (case k0 => k_is)
    (case a1 => k_is)
    (case l1 => k_is)
    (case c1 => k_is)
    (case k1 => k_is)
    (case a2 => k_is)
    (case l2 => k_is)
    (case c2 => k_is)
    (case k2 => k_is)
    (case a3 => k_is)
    (case l3 => k_is)
    (case c3 => k_is)
    (case k3 => k_is)
    (case a4 => k_is)
    (case l4 => k_is)
    (case c4 => k_is)
    (case k4 => k_is)
    (case a5 => k_is)
    (case l5 => k_is)
    (case c5 => k_is)
    (case k5 => k_is)
    (case a6 => k_is)
    (case l6 => k_is)
    (case c6 => k_is)
    (case k6 => k_is)
    (case a7 => k_is)
    (case l7 => k_is)
    (case c7 => k_is)
    (case k7 => k_is)
    (case a8 => k_is)
    (case l8 => k_is)
    (case c8 => k_is)
    (case k8 => k_is)
    (case a9 => k_is)
    (case l9 => k_is)
    (case c9 => k_is)
    (case k9 => k_is)
    (case a10 => k_is)
    (case l10 => k_is)
    (case c10 => k_is)
    (case k10 => k_is)
    (case a11 => k_is)
    (case l11 => k_is)
    (case c11 => k_is)
    (case k11 => k_is)
    (case a12 => k_is)
    (case l12 => k_is)
    (case c12 => k_is)
    (case k12 => k_is)
    (case a13 => k_is)
    (case l13 => k_is)
    (case c13 => k_is)
    (case k13 => k_is)
    (case a14 => k_is)
    (case l14 => k_is)
    (case c14 => k_is)
    (case k14 => k_is)
    (case a15 => k_is)
    (case l15 => k_is)
    (case c15 => k_is)
    (case k15 => k_is)
    (case a16 => k_is)
    (case l16 => k_is)
    (case c16 => k_is)
    (case k16 => k_is)
    (case a17 => k_is)
    (case l17 => k_is)
    (case c17 => k_is)
    (case k17 => k_is)
    (case a18 => k_is)
    (case l18 => k_is)
    (case c18 => k_is)
    (case k18 => k_is)
    (case a19 => k_is)
    (case l19 => k_is)
    (case c19 => k_is)
    (case k19 => k_is)
    (case a20 => k_is)
    (case l20 => k_is)
    (case c20 => k_is)
    (case k20 => k_is)
    (case a21 => k_is)
    (case l21 => k_is)
    (case c21 => k_is)
    (case k21 => k_is)
    (case a22 => k_is)
    (case l22 => k_is)
    (case c22 => k_is)
    (case k22 => k_is)
    (case a23 => k_is)
    (case l23 => k_is)
    (case c23 => k_is)
    (case k23 => k_is)
    (case a24 => k_is)
    (case l24 => k_is)
    (case c24 => k_is)
    (case k24 => k_is)
    (case a25 => k_is)
    (case l25 => k_is)
    (case c25 => k_is)
    (case k25 => k_is)
    (case a26 => k_is)
    (case i26 => k_is)
    (case l26 => k_is)
    (case c26 => k_is)
    (case k26 => k_is)
    (case a27 => k_is)
    (case e27 => k_is)
    (case n27 => k_is)
    (case l27 => k_is)
    (case c27 => k_is)
    (case k27 => k_is)
    (case a28 => k_is)
    (case e28 => k_is)
    (case l28 => k_is)
    (case c28 => k_is)
    (case k28 => k_is)
    (case a29 => k_is)
    (case e29 => k_is)
    (case l29 => k_is)
    (case c29 => k_is)
    (case k29 => k_is)
    (case a30 => k_is)
    (case g30 => k_is)
    (case t30 => k_is)
    (case e30 => k_is)
    (case l30 => k_is)
    (case c30 => k_is)
    (case k30 => k_is)
    (case a31 => k_is)
    (case g31 => k_is)
    (case t31 => k_is)
    (case e31 => k_is)
    (case l31 => k_is)
    (case c31 => k_is)
    (case k31 => k_is)
    (case a32 => k_is)
    (case i32 => k_is)
    (case l32 => k_is)
    (case c32 => k_is)
    (case k32 => k_is)
    (case a33 => k_is)
    (case i33 => k_is)
    (case l33 => k_is)
    (case c33 => k_is)
    (case k33 => k_is)
    (case a34 => k_is)
    (case i34 => k_is)
    (case l34 => k_is)
    (case c34 => k_is)
    (case k34 => k_is)
    (case a35 => k_is)
    (case i35 => k_is)
    (case l35 => k_is)
    (case c35 => k_is)
    (case k35 => k_is)
    (case a36 => k_is)
    (case i36 => k_is)
    (case l36 => k_is)
    (case c36 => k_is)
    (case k36 => k_is)
    (case a37 => k_is)
    (case i37 => k_is)
    (case l37 => k_is)
    (case c37 => k_is)
    (case k37 => k_is)
    (case a38 => k_is)
    (case i38 => k_is)
    (case l38 => k_is)
    (case c38 => k_is)
    (case k38 => k_is)
    (case a39 => k_is)
    (case i39 => k_is)
    (case l39 => k_is)
    (case c39 => k_is)
    (case k39 => k_is)
    (case a40 => k_is)
    (case i40 => k_is)
    (case l40 => k_is)
    (case c40 => k_is)
    (case k40 => k_is)
    (case a41 => k_is)
    (case i41 => k_is)
    (case l41 => k_is)
    (case c41 => k_is)
    (case k41 => k_is)
    (case a42 => k_is)
    (case i42 => k_is)
    (case l42 => k_is)
    (case c42 => k_is)
    (case k42 => k_is)
    (case pg => k_is)
    (case hd => k_is)
    (case po => k_is)
    (case sa => k_is)
    (case mk => k_is)
    (case kc => k_is)
    (case nS => k_is)
    (case nB => k_is)
    (case xa => k_is)
    (case xn => k_is)
    (case xt => k_is)
    (case xm => k_is)
    (case yn => k_is)
    (case sf => k_is)
    (case rr => k_is)
    (case rg => k_is)
    (case eA_EITHER => k_is)
    (case eL_EITHER => k_is)
    (case eA_BOTH => k_is)
    (case eL_BOTH => k_is)
    (case eA_ONLY_FIRST => k_is)
    (case eL_ONLY_FIRST => k_is)
    (case eA_EXACTLY_ONE => k_is)
    (case eL_EXACTLY_ONE => k_is)
    (case nl => k_is)
    (case ns => k_is)
    (case ic => k_is)
    (case tc => k_is)
    (case kl => k_is)
    (case ks => k_is)
    (case z0 => k_is)
    (case z1 => k_is)
    (case z2 => k_is)
    (case z3 => k_is)
    (case z4 => k_is)
    (case z5 => k_is)
    (case z6 => k_is)
    (case z7 => k_is)
    (case z8 => k_is)
    (case z9 => k_is)
    (case z10 => k_is)
    (case z11 => k_is)
    (case z12 => k_is)
    (case z13 => k_is)
    (case z14 => k_is)
