import PyProof.Rows.All
import Wide.All
import OpenK.AllK
import Wide.FinOn
import HandS.ForMost
import HandS.IsInst
import HandS.TupAny
import HandS.Flow
import HandS.Wide
import HandS.Codes
import HandS.Style
import HandS.TupLe
import PySem.Challenge.RW_boxregions_k01_squares_and_boxes_judged
set_option Elab.async false
set_option linter.all false
set_option maxRecDepth 100000
/-! Defs that show data by repr: what they promise holds where no repr is under way around them. -/
namespace Vf
open PySem PySem.Spec PyProof.Rows L2

/-- a def's promise, asked only where nothing is being shown around the call -/
structure FnG (P : Program) (w : World) (K : PySem.W.Frag) (mg : Str → Option Value) (base : Heap) (CX : CXT) (k : Nat) (f : Addr) (fd : FuncData) (ps : List Str) (sp : Sp) : Prop where
  many : ∀ {vs H Q E}, sp vs H Q E → vs.length = ps.length
  goes : ∀ {A : Around} {outer : List Env} {s : Shared} {H : Hp} {args : Args} {us : List Value} {vs : List V} {Q : VK} {E : XK},
    A.guards = some [] → Room k A → Env0 P w K mg base A outer s H → BindsTo s fd args (ps.zip us) → Vals vs us → sp vs H Q E →
    codeAny (model P w) A (.call (.ref f) args) (CR CX outer P w H s Q E) s

section
variable {P : Program} {w : World} {K : PySem.W.Frag} {mg : Str → Option Value} {base : Heap} {CX : CXT} {k : Nat} {f : Addr} {fd : FuncData} {ps : List Str} {sp : Sp}
theorem FnG.of (F : FnOk P w K mg base CX k f fd ps sp) : FnG P w K mg base CX k f fd ps sp :=
  ⟨F.len _ _ _ _, fun _ hr he hb hv hs => F.run _ _ _ _ _ _ _ _ _ hr he hb hv hs⟩
theorem FnG.up {j : Nat} (F : FnG P w K mg base CX j f fd ps sp) (h : j ≤ k) : FnG P w K mg base CX k f fd ps sp :=
  ⟨F.many, fun hg hr he hb hv hs => F.goes hg (hr.mono h) he hb hv hs⟩

/-- the body of a def of the text, walked where nothing is being shown -/
theorem fnG_of {x qual : Str} {st : Stmt} {N : List Str} (F : Fun K x qual st f fd) (S : FnScope N ps (defScope st)) (many : ∀ {vs H Q E}, sp vs H Q E → vs.length = ps.length)
    (walk : ∀ (cdv : Value) (A : Around) (outer : List Env) (s : Shared) (H : Hp) (vs : List V) (Q : VK) (E : XK), A.guards = some [] →
      Room k (A.deeper (envOfC qual (defScope st) s.heap.objs.size f cdv)) → sp vs H Q E →
      ∃ t, PSs (cxOf CX P w K mg base N qual (defScope st) f cdv A outer s H E) (defBody st) t ∧ t { nx := fun _ H' => Q .non H', rt := Q } (start N vs) H) :
    FnG P w K mg base CX (k + 1) f fd ps sp := by
  obtain ⟨clo, odi, kwd, dcs, pmt, ann, cdv, ctx, slo, rfl, look, code⟩ := F.ex
  refine ⟨many, @fun A outer s H args us vs Q E hg hr e0 hb rv hsp => ?_⟩
  have hlen := many hsp
  have KX : K.In s.heap := e0.mod.kin.keeps (fun b o e => (e0.bs b o e).1)
  have nolim : s.heap.NoLimit := e0.mod.nolimit.keeps (fun b o e => (e0.bs b o e).1)
  have kinds : ∀ y ∈ ps.zip us, (defScope st).names.lookup y.1 = some .local ∨
      ((defScope st).names.lookup y.1 = some .cell ∧ ((cellsFrom (s.heap.objs.size + 1) (defScope st).names []).lookup y.1).isSome = true) := by
    rintro ⟨nm, va⟩ hy
    cases S.par nm (List.of_mem_zip hy).1 with
    | inl q => exact Or.inl q
    | inr q => exact Or.inr ⟨q, PySem.W.cellsFrom_some _ _ _ (Or.inl q)⟩
  refine codeAny_call_function hr.depth (KX _ _ look) rfl S.co S.gen rfl (PySem.W.codeRec_of KX code) (hb _ _ _ _ ?_)
  refine wpAny_newFunctionEnv_cells S.kind kinds (fun env henv s1 inc => ?_)
  subst henv
  refine ⟨nolim.keeps inc.toInCall.keep, codeAny_func ?_⟩
  obtain ⟨t, ht, hq⟩ := walk cdv A outer s H vs Q E hg (hr.deeper _) hsp
  have I0 := inv_start (CX := CX) (P := P) (w := w) (K := K) (mg := mg) (base := base) (qual := qual) (f := f) (cd := cdv) (E := E) S hr.hd e0 hlen rv inc
  refine wpAny_mono (ht.run [] s1 (start N vs) H _ I0 hq) (fun fl s' hs => ?_) (fun e s' hs => hs)
  cases fl with
  | ret u =>
    obtain ⟨v, σ', H', J, r1, q⟩ := hs
    exact ⟨v, H', J.os, J.bare, J.base, J.hok, r1, q⟩
  | next =>
    obtain ⟨σ', H', J, q⟩ := hs
    exact ⟨V.non, H', J.os, J.bare, J.base, J.hok, (rfl : Value.none = Value.none), q⟩
  | brk =>
    obtain ⟨_, _, _, q⟩ := hs
    exact q.elim
  | cont =>
    obtain ⟨_, _, _, q⟩ := hs
    exact q.elim
/-- the same for a def that no exception leaves -/
theorem okG {x qual : Str} {st : Stmt} {N : List Str} (F : Fun K x qual st f fd) (S : FnScope N ps (defScope st)) (many : ∀ {vs H Q E}, sp vs H Q E → vs.length = ps.length)
    (walk : ∀ (cdv : Value) (A : Around) (outer : List Env) (s : Shared) (H : Hp) (vs : List V) (Q : VK) (E : XK), A.guards = some [] →
      Room k (A.deeper (envOfC qual (defScope st) s.heap.objs.size f cdv)) → sp vs H Q E →
      ∃ t, PSs (cxOf CX0 P w K mg base N qual (defScope st) f cdv A outer s H E).nox (defBody st) t ∧ t { nx := fun _ H' => Q .non H', rt := Q } (start N vs) H) :
    FnG P w K mg base CX0 (k + 1) f fd ps sp :=
  fnG_of F S many (fun cdv A outer s H vs Q E hg hr hs => by
    obtain ⟨t, h, q⟩ := walk cdv A outer s H vs Q E hg hr hs
    exact ⟨t, h.nox, q⟩)
end

section
variable {X : Cx} {CX : CXT} {k : Nat} {f : Addr} {fd : FuncData} {ps : List Str} {sp : Sp} {dvs : List V} {ds : List Value} {E : XK} {x : Str} {p pos : Pos} {e : Expr} {es : List Expr} {t : TA}
/-- f(..) of such a def -/
theorem pe_callG (F : FnG X.prog X.w X.K X.mg X.base CX k f fd ps sp) (gd : X.A.guards = some []) (hr : Room k X.A) (hg : Gl X x) (hm : X.mg x = some (.ref f)) (hk : PySem.W.keepIn X.K (.ref f) = true) (hb : Binds X.K fd ps ds) (hd : Vals dvs ds)
    (hx : Passes CX X E) (ha : PA X (e :: es) t) (hdb : (x == ("__debug__" : Str)) = false := by decide) (he : starEach (e :: es) X.env = (false, eval e X.env) :: starEach es X.env := by rfl)
    (hpl : (backTo pos (starEach es X.env)).any (·.1) = false := by rfl) : PE X (.Call (.Name x p) (e :: es) [] pos) (tCall sp dvs E t) := by
  constructor
  intro pins s σ H Q I h
  apply wpAny_Call_Name_kw
  refine ld_glob I hg hm ?_ hdb
  refine PySem.W.callWith_K (h₀ := X.base) I.ok.mod.kin hk (thn (ha.run pos pins s σ H _ I h) ?_) he hpl
  rintro us s1 ⟨vs, H1, I1, r1, q1⟩
  refine ⟨I1.kIn, ?_⟩
  have r2 : Vals (vs ++ dvs) (us ++ ds) := r1.append hd
  have many : (us ++ ds).length = ps.length := (r2.length).symm.trans (F.many q1)
  refine wpAny_call (codeAny_mono (F.goes gd hr I1.env0 (hb s1 us I1.kIn many) r2 q1) ?_)
  intro r s' hq
  match r, hq with
  | .error e, hq => exact hx pins σ H1 s1 e s' I1 hq
  | .ok (.ret u), hq => exact I1.after hq
  | .ok .next, hq => exact (show False from hq).elim
  | .ok .brk, hq => exact (show False from hq).elim
  | .ok .cont, hq => exact (show False from hq).elim
end

section
variable {X : Cx}
/-- repr of data, where nothing is being shown around -/
theorem call_repr_data (gd : X.A.guards = some []) (hu : X.A.units + 64 < cLine) : CallR X (.builtin "repr") (fun xs H Q => ∃ v d, xs = [v] ∧ Dp X.K H v d ∧ d.showable = true ∧ d.hasDict = false ∧ d.depth ≤ 60 ∧ d.shown.length ≤ sizeLine ∧ Q (.str d.shown) H) := by
  intro pins s σ H xs us Q I r h
  obtain ⟨v, d, rfl, hd, hs, hn, hdep, hz, q⟩ := h
  obtain ⟨u, rfl, rv⟩ := vals1 r
  obtain ⟨as, rd⟩ := Dp.reads I d v u hd rv
  have nd : d.hasDict = true → sysModules ∉ as := fun z => by
    rw [hn] at z
    cases z
  cases hd with
  | non =>
    cases rv
    exact PySem.P.repr_of_none ⟨.str _, H, I.tok _, ⟨_, rfl⟩, q⟩
  | bl b =>
    cases rv
    exact PySem.P.repr_of_bool ⟨.str _, H, I.tok _, ⟨_, rfl⟩, by cases b <;> exact q⟩
  | int i =>
    obtain ⟨t, rfl⟩ := rv
    exact PySem.P.repr_of_int (of_decide_eq_true hs) ⟨.str _, H, I.tok _, ⟨_, rfl⟩, q⟩
  | str y =>
    obtain ⟨t, rfl⟩ := rv
    exact PySem.P.repr_of_str ⟨.str _, H, I.tok _, ⟨_, rfl⟩, q⟩ hz
  | lst hl ha =>
    cases rv
    exact repr_of_reads' rd hs nd gd (by omega) (fun _ _ e => e) (fun h' u tk hk => ⟨.str _, H, I.kept hk, ⟨_, rfl⟩, q⟩) hz
  | tup hl ha =>
    cases rv
    exact repr_of_reads' rd hs nd gd (by omega) (fun _ _ e => e) (fun h' u tk hk => ⟨.str _, H, I.kept hk, ⟨_, rfl⟩, q⟩) hz
end

/-! ### a law's end, its def walked where nothing is being shown -/
section
variable {P : Program} {w : World} {K : PySem.W.Frag} {mg mb : Str → Option Value} {CX : CXT} {k : Nat} {fa a : Addr} {fd : FuncData} {x : Str} {sp : Sp} {s1 : Shared} {vs : List Value} {ns : List Int}
/-- what a law is asked for -/
abbrev LawEnd (s1 : Shared) : Result → Shared → Prop := fun r s' => r = .ok (.ret (.bool true)) ∧ OldK s1.heap s'.heap ∧ s'.os = s1.os ∧ AllBare s'.gens
/-- from a view of the heap in which the script alone may be tracked, and then is known to its object -/
theorem lawG_at {H : Hp} (KX : K.In s1.heap) (gl : s1.heap.Ns mainGlobals mg) (bt : s1.heap.Ns builtinsNs mb) (bt2 : ∀ x : Str, x ≠ "__name__" → mb x = bootBuiltins x) (nolim : s1.heap.NoLimit) (gens : s1.gens = #[]) (hr : Room k callerA)
    (F : ∀ base : Heap, K.In base → base.Ns mainGlobals mg → FnG P w K mg base CX k fa fd [x] sp) (binds : ∀ (s : Shared) (u : Value), BindsTo s fd ⟨[u], []⟩ [(x, u)])
    (nocx : ∀ H e s', CX [] H s1 (fun _ _ _ => False) e s' → False) (hok : HOk P w H s1.heap) (lone : ∀ b, H b = none ∨ (b = a ∧ ∃ o ys, H b = some (.frz o (.lst ys))))
    (here : ∃ n, s1.heap.get? a = some { cls := .type "list", data := .seq vs.toArray n }) (out : H a ≠ none → K.lookup a = none) (ask : sp [.ref a] H (fun v _ => v = .bl true) fun _ _ _ => False) :
    codeAny (model P w) callerA (.call (.ref fa) ⟨[.ref a], []⟩) (LawEnd s1) s1 := by
  obtain ⟨nA, here⟩ := here
  -- what is read of the module is not tracked
  have off : ∀ {b : Addr} {m : Str → Option Value}, s1.heap.Ns b m → (hidT s1.heap H).Ns b m := by
    rintro b m ⟨o, es, ep, e, d, r⟩
    refine ⟨o, es, ep, hidT_get e ?_, d, r⟩
    rcases lone b with z | ⟨rfl, _⟩
    · exact z
    · rw [here] at e
      cases e
      cases (show Data.seq vs.toArray nA = Data.dict es ep from d)
  have inn : K.In (hidT s1.heap H) := fun b o e => hidT_get (KX b o e) (by
    rcases lone b with z | ⟨rfl, o', ys, z⟩
    · exact z
    · have := out (by rw [z]; simp)
      rw [this] at e
      cases e)
  have lim : (hidT s1.heap H).NoLimit := by
    obtain ⟨mc, h1, h2⟩ := nolim
    exact ⟨mc, off h1, h2⟩
  have e0 : Env0 P w K mg (hidT s1.heap H) callerA [] s1 H :=
    { frames := rfl, mod := ⟨inn, off gl, ⟨mb, off bt, bt2⟩, lim⟩, bs := fun b o e => of_hidT e, bsz := Nat.le_of_eq (hidT_size _ _), funs := trivial,
      frf := fun b hb => absurd (show b ∈ ([] : List Addr) from hb) (by simp), hok := hok, bare := .of_eq gens }
  have run := (F _ inn (off gl)).goes (A := callerA) (args := ⟨[.ref a], []⟩) (us := [.ref a]) (vs := [.ref a]) rfl hr e0 (binds s1 (.ref a)) (.cons rfl .nil) ask
  refine codeAny_mono run (fun r s' h => ?_)
  match r, h with
  | .error e, h => exact (nocx H e s' h).elim
  | .ok .next, h => exact (show False from h).elim
  | .ok .brk, h => exact (show False from h).elim
  | .ok .cont, h => exact (show False from h).elim
  | .ok (.ret u), h =>
    obtain ⟨v, H', sameOs, bare, un, hok', rv, q⟩ := h
    cases (show v = V.bl true from q)
    cases (show u = Value.bool true from rv)
    refine ⟨rfl, OldK.of_keep (fun b o e => ?_), sameOs, bare⟩
    rcases lone b with z | ⟨_, o', ys, z⟩
    · exact un.keep b o e z (fun m => absurd (show b ∈ ([] : List Addr) from m) (by simp)) (by simp)
    · have h1 := (hok b _ z).1
      have h2 := (hok' b _ (un.frzs b o' _ z)).1
      rw [e] at h1
      cases h1
      exact h2
theorem lawG (KX : K.In s1.heap) (gl : s1.heap.Ns mainGlobals mg) (bt : s1.heap.Ns builtinsNs mb) (bt2 : ∀ x : Str, x ≠ "__name__" → mb x = bootBuiltins x) (nolim : s1.heap.NoLimit) (gens : s1.gens = #[])
    (ha : s1.heap.get? a = some { cls := .type "list", data := .seq vs.toArray }) (whole : IntsAre vs ns) (short : ns.length ≤ sizeLine) (hr : Room k callerA)
    (F : ∀ base : Heap, K.In base → base.Ns mainGlobals mg → FnG P w K mg base CX k fa fd [x] sp) (binds : ∀ (s : Shared) (u : Value), BindsTo s fd ⟨[u], []⟩ [(x, u)])
    (ask : ∀ H : Hp, Only H → SqL K H a (ns.map V.int) → sp [.ref a] H (fun v _ => v = .bl true) fun _ _ _ => False)
    (nocx : ∀ H e s', CX [] H s1 (fun _ _ _ => False) e s' → False) : codeAny (model P w) callerA (.call (.ref fa) ⟨[.ref a], []⟩) (LawEnd s1) s1 := by
  have rv := vals_ints whole
  have many := whole.length
  cases hk : K.lookup a with
  | some o =>
    -- the script stands in the module's own part
    have e := KX a o hk
    rw [ha] at e
    cases e
    refine lawG_at (H := fun _ => none) KX gl bt bt2 nolim gens hr F binds nocx (fun b u z => by cases z) (fun b => .inl rfl) ⟨_, ha⟩ (fun z => absurd rfl z) (ask _ (fun b => .inl rfl) ?_)
    exact .inr ⟨_, vs.toArray, _, hk, rfl, rfl, rfl, (by rw [List.size_toArray, many]; exact short), by simpa using rv⟩
  | none =>
    have at_a : ∀ {b : Addr} {u : HO}, (if b = a then some (HO.frz { cls := .type "list", data := .seq vs.toArray } (.lst (ns.map V.int))) else none) = some u → b = a ∧ u = .frz { cls := .type "list", data := .seq vs.toArray } (.lst (ns.map V.int)) := by
      intro b u z
      by_cases hb : b = a
      · rw [if_pos hb] at z
        exact ⟨hb, (Option.some.inj z).symm⟩
      · rw [if_neg hb] at z
        cases z
    refine lawG_at (H := fun b => if b = a then some (.frz { cls := .type "list", data := .seq vs.toArray } (.lst (ns.map V.int))) else none) KX gl bt bt2 nolim gens hr F binds nocx (fun b u z => ?_) (fun b => ?_) ⟨_, ha⟩ (fun _ => hk) (ask _ (fun b => ?_) ?_)
    · obtain ⟨rfl, rfl⟩ := at_a z
      exact ⟨ha, by rw [List.length_map]; exact short, vs, _, rv, ha⟩
    · by_cases hb : b = a
      · exact .inr ⟨hb, _, _, if_pos hb⟩
      · exact .inl (if_neg hb)
    · by_cases hb : b = a
      · exact .inr ⟨_, _, if_pos hb⟩
      · exact .inl (if_neg hb)
    · exact .inl (.inr ⟨_, if_pos rfl⟩)
end
/-- the goal that k_head leaves -/
theorem walkG {l : PySem.W.OpenLaw} {n k : Nat} {q : Program} {loose : List Str} {XP : (Str → Option Value) → Heap → Prop} {YP : World → Heap → Prop} {d : DefRec} {K : Params → PySem.W.Frag} {CX : CXT} {sp : PySem.W.Frag → Sp} {x : Str}
    (hn : l.most = some n) (hn2 : n ≤ sizeLine) (nodef : d.params.defaults = []) (hr : Room k callerA) (hY : ∀ (w : World) (h : Heap), YP w h → (K w.params).In h)
    (F : ∀ (w : World) (mg : Str → Option Value) (fa : Addr) (h : Heap), (K w.params).In h → h.Ns mainGlobals mg → mg d.name = some (.ref fa) →
      ∃ fd : FuncData, (∀ (s : Shared) (u : Value), BindsTo s fd ⟨[u], []⟩ [(x, u)]) ∧ ∀ base : Heap, (K w.params).In base → base.Ns mainGlobals mg → FnG l.prog w (K w.params) mg base CX k fa fd [x] (sp (K w.params)))
    (ask : ∀ (K : PySem.W.Frag) (H : Hp) (a : Addr) (ns : List Int), ns.length ≤ n → Only H → SqL K H a (ns.map V.int) → sp K [.ref a] H (fun v _ => v = .bl true) fun _ _ _ => False)
    (nocx : ∀ (H : Hp) (s : Shared) (e : Value) (s' : Shared), CX [] H s (fun _ _ _ => False) e s' → False) : PySem.W.WalkO q loose XP YP l.row.toRowW d [] (fun f vs => PySem.call f vs) := by
  refine Att.attach_call hn nodef (fun w s0 s1 mg mb fa o pm cd doc a vs ns G Y ho hd hcd hmg hobj hints hlen gens => ?_)
  have KX := hY w _ Y
  obtain ⟨fd, hb, hF⟩ := F w mg fa _ KX G.T.g hmg
  exact lawG KX G.T.g G.T.b G.T.builtins G.T.nolimit gens hobj hints (Nat.le_trans hlen hn2) hr hF hb (fun H hO hS => ask _ H a ns hlen hO hS) (fun H e s' => nocx H s1 e s')
end Vf

set_option Elab.async false
set_option linter.all false
set_option maxRecDepth 100000
/-! Data in the abstract heap: what stays, its kinds; a list that is set aside. -/
namespace Vf
open PySem PySem.Spec PyProof.Rows L2

section
variable {K : PySem.W.Frag} {H H' : Hp}
theorem sqT_same {a : Addr} {xs : List V} (e : Same H H') (h : SqT K H a xs) : SqT K H' a xs := by
  rcases h with (h | ⟨o, h⟩) | h
  · exact .inl (.inl (e _ _ h))
  · exact .inl (.inr ⟨o, e _ _ h⟩)
  · exact .inr h
mutual
theorem dp_same (e : Same H H') : ∀ {d : PyData} {v : V}, Dp K H v d → Dp K H' v d
  | .none, _, .non => .non
  | .bool _, _, .bl b => .bl b
  | .int _, _, .int i => .int i
  | .str _, _, .str x => .str x
  | .list _, _, .lst h ha => .lst (e.seq h) (dpAll_same e ha)
  | .tuple _, _, .tup h ha => .tup (sqT_same e h) (dpAll_same e ha)
theorem dpAll_same (e : Same H H') : ∀ {ds : List PyData} {vs : List V}, DpAll K H vs ds → DpAll K H' vs ds
  | [], _, .nil => .nil
  | _ :: _, _, .cons h t => .cons (dp_same e h) (dpAll_same e t)
end
theorem dpAll_len : ∀ {ds : List PyData} {vs : List V}, DpAll K H vs ds → vs.length = ds.length
  | [], _, .nil => rfl
  | _ :: _, _, .cons _ t => congrArg (· + 1) (dpAll_len t)
theorem dpAll_get : ∀ {ds : List PyData} {vs : List V} {i : Nat} {v : V}, DpAll K H vs ds → vs[i]? = some v → ∃ d, ds[i]? = some d ∧ Dp K H v d
  | [], _, _, _, .nil, h => by simp at h
  | d :: _, _, 0, _, .cons hd _, h => by
    simp at h
    subst h
    exact ⟨d, rfl, hd⟩
  | _ :: _, _, i + 1, _, .cons _ t, h => by
    obtain ⟨d, h1, h2⟩ := dpAll_get (i := i) t (by simpa using h)
    exact ⟨d, by simpa using h1, h2⟩
theorem dpAll_mk : ∀ {ds : List PyData} {vs : List V}, vs.length = ds.length → (∀ (i : Nat) v d, vs[i]? = some v → ds[i]? = some d → Dp K H v d) → DpAll K H vs ds
  | [], [], _, _ => .nil
  | [], _ :: _, h, _ => by simp at h
  | _ :: _, [], h, _ => by simp at h
  | d :: ds, v :: vs, h, f => .cons (f 0 v d rfl rfl) (dpAll_mk (by simpa using h) fun i v d h1 h2 => f (i + 1) v d (by simpa using h1) (by simpa using h2))
theorem dpAll_app : ∀ {ds es : List PyData} {vs us : List V}, DpAll K H vs ds → DpAll K H us es → DpAll K H (vs ++ us) (ds ++ es)
  | [], _, _, _, .nil, h => h
  | _ :: _, _, _, _, .cons a t, h => .cons a (dpAll_app t h)
theorem dpAll_take : ∀ {ds : List PyData} {vs : List V} (n : Nat), DpAll K H vs ds → DpAll K H (vs.take n) (ds.take n)
  | _, _, 0, _ => .nil
  | [], _, _ + 1, .nil => .nil
  | _ :: _, _, n + 1, .cons a t => .cons a (dpAll_take n t)
theorem dpAll_drop : ∀ {ds : List PyData} {vs : List V} (n : Nat), DpAll K H vs ds → DpAll K H (vs.drop n) (ds.drop n)
  | _, _, 0, h => h
  | [], _, _ + 1, .nil => .nil
  | _ :: _, _, n + 1, .cons _ t => dpAll_drop n t
theorem dpAll_rev {ds : List PyData} {vs : List V} (h : DpAll K H vs ds) : DpAll K H vs.reverse ds.reverse := by
  induction ds generalizing vs with
  | nil => cases h; exact .nil
  | cons d ds ih =>
    cases h with
    | cons a t =>
      rw [List.reverse_cons, List.reverse_cons]
      exact dpAll_app (ih t) (.cons a .nil)
theorem dpAll_ints (ns : List Int) : DpAll K H (ns.map V.int) (ns.map PyData.int) := by
  induction ns with
  | nil => exact .nil
  | cons n ns ih => exact .cons (.int n) ih
theorem same_new {p : Addr} {o : HO} (h : H p = none) : Same H (upd H p o) := fun b x e => by
  rw [upd_ne (ne_of_none e h)]
  exact e
theorem sqL_new {p : Addr} {xs : List V} : SqL K (upd H p (.lst xs)) p xs := .inl (.inl upd_same)
theorem sqT_new {p : Addr} {xs : List V} : SqT K (upd H p (.tup xs)) p xs := .inl (.inl upd_same)
end

/-- the name of a datum's built-in class -/
def tyName : PyData → String
  | .none => "NoneType"
  | .bool _ => "bool"
  | .int _ => "int"
  | .str _ => "str"
  | .list _ => "list"
  | .tuple _ => "tuple"
  | .dict _ => "dict"
theorem tyX_dp {K : PySem.W.Frag} {H : Hp} {v : V} {d : PyData} (h : Dp K H v d) : TyX K H v (.type (tyName d)) := by
  cases h with
  | non => exact .base .non
  | bl b => exact .base (.bl b)
  | int i => exact .base (.int i)
  | str x => exact .base (.str x)
  | lst h _ =>
    rcases h with (h | ⟨o, h⟩) | h
    · exact .base (.lst h)
    · exact .base (.frz h)
    · obtain ⟨o, its, n, lk, hc, hd, _⟩ := h
      exact .kList lk (by assumption)
  | tup h _ =>
    rcases h with (h | ⟨o, h⟩) | h
    · exact .base (.tup h)
    · exact .fTuple h
    · obtain ⟨o, its, n, lk, hc, _⟩ := h
      exact .kTuple lk (by assumption)

/-! ### data that can be shown and compared -/
mutual
def nice : PyData → Bool
  | .none => true
  | .bool _ => true
  | .int i => decide (i.natAbs.log2 < 1920)
  | .str x => PyData.strOk x
  | .list ds => niceAll ds
  | .tuple ds => niceAll ds
  | .dict _ => false
def niceAll : List PyData → Bool
  | [] => true
  | d :: ds => nice d && niceAll ds
end
mutual
/-- no more signs than these are shown -/
def wide : PyData → Nat
  | .none => 5
  | .bool _ => 5
  | .int _ => 1921
  | .str x => 10 * x.length + 2
  | .list ds => wideAll ds + 3
  | .tuple ds => wideAll ds + 3
  | .dict _ => 0
def wideAll : List PyData → Nat
  | [] => 0
  | d :: ds => wide d + 2 + wideAll ds
end
theorem shownAll_len : ∀ ds : List PyData, (PyData.shownAll ds).length = ds.length
  | [] => by simp only [PyData.shownAll, List.length_nil]
  | d :: ds => by simp only [PyData.shownAll, List.length_cons, shownAll_len ds]
mutual
theorem shown_wide : ∀ d : PyData, nice d = true → d.shown.length ≤ wide d
  | .none, _ => by simp only [PyData.shown, wide]; decide +kernel
  | .bool b, _ => by cases b <;> (simp only [PyData.shown, wide]; decide +kernel)
  | .int i, h => by
    simp only [nice] at h
    simp only [PyData.shown, wide]
    exact int_text_len_1921 (of_decide_eq_true h)
  | .str x, h => by
    simp only [nice] at h
    simp only [PyData.shown, wide]
    refine StrLaws.reprText_len x (fun c hc => ?_)
    have h3 := Array.all_eq_true_iff_forall_mem.mp h c (Array.mem_toList_iff.mp hc)
    have h4 : c < 0x110000 := by simpa using h3
    have e : (16 : Nat) ^ 8 = 4294967296 := by decide
    omega
  | .list ds, h => by
    simp only [nice] at h
    simp only [PyData.shown, wide]
    have h1 := listText_len_le (PyData.shownAll ds)
    have h2 := shownAll_wide ds h
    rw [shownAll_len] at h1
    omega
  | .tuple ds, h => by
    simp only [nice] at h
    simp only [PyData.shown, wide]
    have h1 := tupleText_len_le (PyData.shownAll ds)
    have h2 := shownAll_wide ds h
    rw [shownAll_len] at h1
    omega
  | .dict _, h => by
    simp only [nice] at h
    cases h
theorem shownAll_wide : ∀ ds : List PyData, niceAll ds = true → ((PyData.shownAll ds).map (·.length)).sum + 2 * ds.length ≤ wideAll ds
  | [], _ => by simp only [PyData.shownAll, wideAll, List.map_nil, List.sum_nil, List.length_nil]; omega
  | d :: ds, h => by
    simp only [niceAll, Bool.and_eq_true] at h
    have h1 := shown_wide d h.1
    have h2 := shownAll_wide ds h.2
    simp only [PyData.shownAll, wideAll, List.map_cons, List.sum_cons, List.length_cons]
    omega
end
mutual
theorem nice_show : ∀ d : PyData, nice d = true → d.showable = true ∧ d.hasDict = false ∧ d.canLay0 = true
  | .none, _ => by simp only [PyData.showable, PyData.hasDict, PyData.canLay0, and_self]
  | .bool b, _ => by simp only [PyData.showable, PyData.hasDict, PyData.canLay0, and_self]
  | .int i, h => by
    simp only [nice] at h
    simp only [PyData.showable, PyData.hasDict, PyData.canLay0, h, and_self]
  | .str x, h => by
    simp only [nice] at h
    simp only [PyData.showable, PyData.hasDict, PyData.canLay0, h, and_self]
  | .list ds, h => by
    simp only [nice] at h
    simp only [PyData.showable, PyData.hasDict, PyData.canLay0]
    exact niceAll_show ds h
  | .tuple ds, h => by
    simp only [nice] at h
    simp only [PyData.showable, PyData.hasDict, PyData.canLay0]
    exact niceAll_show ds h
  | .dict _, h => by
    simp only [nice] at h
    cases h
theorem niceAll_show : ∀ ds : List PyData, niceAll ds = true → PyData.showableAll ds = true ∧ PyData.hasDictAll ds = false ∧ PyData.canLayAll0 ds = true
  | [], _ => by simp only [PyData.showableAll, PyData.hasDictAll, PyData.canLayAll0, and_self]
  | d :: ds, h => by
    simp only [niceAll, Bool.and_eq_true] at h
    obtain ⟨a1, a2, a3⟩ := nice_show d h.1
    obtain ⟨b1, b2, b3⟩ := niceAll_show ds h.2
    simp only [PyData.showableAll, PyData.hasDictAll, PyData.canLayAll0, a1, a2, a3, b1, b2, b3, Bool.and_self, Bool.or_self, and_self]
end
theorem niceAll_mem : ∀ {ds : List PyData}, niceAll ds = true ↔ ∀ d ∈ ds, nice d = true
  | [] => by simp [niceAll]
  | d :: ds => by simp [niceAll, niceAll_mem (ds := ds)]
theorem shaped_of {d : PyData} (h : nice d = true) (hd : d.depth ≤ 64) : SeqAt.shaped d = true := by
  unfold SeqAt.shaped
  rw [(nice_show d h).2.2, decide_eq_true hd]
  rfl
theorem depthAll_mem {n : Nat} : ∀ {ds : List PyData}, PyData.depthAll ds ≤ n ↔ ∀ d ∈ ds, d.depth ≤ n
  | [] => by simp [PyData.depthAll]
  | d :: ds => by
    simp only [PyData.depthAll, List.mem_cons, forall_eq_or_imp, ← depthAll_mem (ds := ds)]
    omega
theorem eqvAll_nil : ∀ ds : List PyData, PyData.eqvAll ds [] = ds.isEmpty
  | [] => by simp only [PyData.eqvAll, List.isEmpty_nil]
  | _ :: _ => by simp only [PyData.eqvAll, List.isEmpty_cons]
section
variable {X : Cx}
/-- repr(v) of data, told by what is nice of it -/
def rRepr (K : PySem.W.Frag) : List V → Hp → VK → Prop := fun xs H Q => ∃ v d, xs = [v] ∧ Dp K H v d ∧ nice d = true ∧ d.depth ≤ 60 ∧ wide d ≤ 1000000 ∧ Q (.str d.shown) H
theorem call_repr (gd : X.A.guards = some []) (hu : X.A.units + 64 < cLine) : CallR X (.builtin "repr") (rRepr X.K) := by
  intro pins s σ H xs us Q I r h
  obtain ⟨v, d, rfl, hd, hn, hdep, hw, q⟩ := h
  obtain ⟨a1, a2, _⟩ := nice_show d hn
  refine call_repr_data gd hu pins s σ H _ us Q I r ⟨v, d, rfl, hd, a1, a2, hdep, ?_, q⟩
  have h1 := shown_wide d hn
  exact Nat.le_trans h1 (Nat.le_trans hw (by decide))
end
end Vf

set_option Elab.async false
set_option linter.all false
set_option maxRecDepth 100000
/-! t[::-1] of a tuple. -/
namespace Vf
open PySem PySem.Spec PyProof.Rows L2 HT

theorem rev_places (n : Nat) : Builtin.Slice.slicePlaces ((n : Int) - 1) (-1) (-1) = n := by
  unfold Builtin.Slice.slicePlaces
  rw [if_neg (show ¬ ((-1 : Int) > 0) by decide)]
  by_cases h : ((n : Int) - 1 > -1)
  · rw [if_pos h]
    have e : ((n : Int) - 1 - -1 - 1) / -(-1) + 1 = n := by
      rw [show (-(-1) : Int) = 1 from rfl, Int.ediv_one]
      omega
    rw [e]
    rfl
  · rw [if_neg h]
    show 0 = n
    omega
theorem rev_pick {α : Type} (l : List α) : ∀ (k : Nat), k ≤ l.length → (List.range k).filterMap (fun (m : Nat) => l[((l.length : Int) - 1 + (m : Int) * -1).toNat]?) = (l.drop (l.length - k)).reverse
  | 0, _ => by simp
  | k + 1, h => by
    rw [List.range_succ, List.filterMap_append, rev_pick l k (by omega)]
    have e : ((l.length : Int) - 1 + (k : Int) * -1).toNat = l.length - (k + 1) := by omega
    have hk : l.length - (k + 1) < l.length := by omega
    have e2 : l.drop (l.length - (k + 1)) = l[l.length - (k + 1)] :: l.drop (l.length - k) := by
      rw [List.drop_eq_getElem_cons hk]
      congr 2
      omega
    rw [e2, List.reverse_cons]
    simp only [List.filterMap_cons, List.filterMap_nil, e, List.getElem?_eq_getElem hk]
section
variable {prog : Program} {w : World} {A : Around} {E : Value → Shared → Prop} {s : Shared}
theorem applied_rev {sl : Addr} {t : Tok} {n : Nat} {Q : Int × Int × Nat → Shared → Prop} (hs : s.heap.IsSliceOf sl .none .none (.int (-1) t)) (h : Q ((n : Int) - 1, -1, n) s) :
    wpAny (model prog w) A (Builtin.Slice.sliceApplied (.ref sl) (pure (n : Int))) Q E s := by
  obtain ⟨ob, get, _, dat⟩ := id hs
  unfold Builtin.Slice.sliceApplied Builtin.Slice.sliceFields
  refine wpAny_bind (wpAny_bind (wpAny_field get dat (x := .none) rfl (wpAny_bind (wpAny_field get dat (x := .none) rfl (wpAny_bind (wpAny_field get dat (x := .int (-1) t) rfl (wpAny_pure ?_)))))))
  refine wpAny_bind (slicePart_int ?_)
  show wpAny _ _ (if ((-1 : Int) == 0) = true then _ else _) _ _ s
  rw [if_neg (by decide)]
  refine wpAny_bind (slicePart_none (wpAny_bind (slicePart_none (wpAny_bind (wpAny_pure ?_)))))
  show wpAny _ _ (pure ((n : Int) - 1, (-1 : Int), Builtin.Slice.slicePlaces ((n : Int) - 1) (-1) (-1))) _ _ s
  rw [rev_places]
  exact wpAny_pure h
theorem getItem_tuple_rev {t sl : Addr} {items : Array Value} {tk : Tok} {Q : Value → Shared → Prop} (ht : IsTup s.heap t items) (hs : s.heap.IsSliceOf sl .none .none (.int (-1) tk))
    (h : Q (.ref s.heap.objs.size) { s with heap := s.heap.push { cls := .type "tuple", data := .seq items.toList.reverse.toArray } }) (hsz : items.size ≤ sizeLine) : wpAny (model prog w) A (getItem (.ref t) (.ref sl)) Q E s := by
  have fits : sizeOk (.seq items.toList.reverse.toArray) := by
    show items.toList.reverse.toArray.size ≤ sizeLine
    rw [List.size_toArray, List.length_reverse, Array.length_toList]
    exact hsz
  obtain ⟨ob, get, cls, dat⟩ := id hs
  have isS : s.TypeIs (.ref sl) "slice" := ⟨ob, get, cls⟩
  unfold getItem
  try with_reducible refine wpAny_holding ?_
  first | refine wpAny_bind (wpAny_pure ?_) | skip
  refine wpAny_bind (wpAny_sequenceKey ht.typeIs (by decide) ?_)
  refine wpAny_bind (wpAny_callSpecial?_slot (name := Str.ofString "__getitem__") ht.typeIs PyProof.Rows.slot_tuple_getitem
    (wpAny_call_entry PyProof.Rows.slot_tuple_getitem ht.typeIs entry_tuple_getitem ?_ (args_tuple_getitem _ _)))
  show wpAny _ _ (Builtin.Tuple.tupleItemsOf (.ref t) >>= _) _ _ s
  refine wpAny_bind (tupleItemsOf_ ht ?_)
  refine wpAny_bind (wpAny_typeOf isS ?_)
  rw [if_pos (by decide)]
  refine wpAny_bind (applied_rev hs ?_)
  have other : ¬ ((((items.size : Int) - 1 == 0) && ((-1 : Int) == 1) && (items.size == items.size)) = true) := by
    intro q
    rw [Bool.and_eq_true, Bool.and_eq_true] at q
    exact absurd (eq_of_beq q.1.2) (by decide)
  show wpAny _ _ (if (((items.size : Int) - 1 == 0) && ((-1 : Int) == 1) && (items.size == items.size)) = true then _ else _) _ _ s
  have pick : ((List.range items.size).filterMap fun (k : Nat) => items[((items.size : Int) - 1 + (k : Int) * -1).toNat]?) = items.toList.reverse := by
    have := rev_pick items.toList items.size (by simp)
    simp only [Array.length_toList, Nat.sub_self, List.drop_zero, Array.getElem?_toList] at this
    exact this
  rw [if_neg other, pick]
  first
    | exact wpAny_bind (m := Builtin.Tuple.tupleExact _) (wpAny_newObj_type (wpAny_pure ⟨_, rfl, wpAny_pure h⟩) fits)
    | exact wpAny_bind (m := Builtin.Tuple.tupleExact _) (wpAny_newObj_type (wpAny_bind (wpAny_pure (wpAny_pure ⟨_, rfl, wpAny_pure h⟩))) fits)
    | exact wpAny_bind (wpAny_bind (m := Builtin.Tuple.tupleExact _) (wpAny_newObj_type (wpAny_pure (wpAny_pure ⟨_, rfl, wpAny_pure h⟩)) fits))
    | exact wpAny_bind (wpAny_bind (m := Builtin.Tuple.tupleExact _) (wpAny_newObj_type (wpAny_pure ⟨_, rfl, wpAny_pure h⟩) fits))
end
section
variable {X : Cx}
def tRevT (K : PySem.W.Frag) (te : TE) : TE := fun σ H Q => te σ H fun x H1 => ∃ a xs, x = .ref a ∧ SqT K H1 a xs ∧ ∀ p, H1 p = none → Q (.ref p) (upd H1 p (.tup xs.reverse))
theorem pe_revT {e : Expr} {te : TE} {k : Nat} {p1 p2 p3 pos : Pos} (he : PE X e te) : PE X (.Subscript e (.Slice none none (some (.UnaryOp .USub (.Constant (.int 1) k p1) p2)) p3) pos) (tRevT X.K te) := by
  constructor
  intro pins s σ H Q I h
  refine Subscript_ (thn (he.run pins s σ H _ I h) ?_)
  rintro v s1 ⟨x, H1, I1, r1, a, xs, rfl, hx, q⟩
  cases r1
  have minus : PO X (some (.UnaryOp .USub (.Constant (.int 1) k p1) p2)) (tPart (tUn (rU fun i => .int (-i)) (tC (.int 1)))) := po_some (pe_un un_neg pe_int)
  refine wpAny_Slice (thn (po_none.run pins s1 σ H1 (fun o H2 => o = none ∧ H2 = H1) I1 ⟨rfl, rfl⟩) ?_)
  rintro vl s2 ⟨l, H2, I2, pl, rfl, rfl⟩
  refine thn (po_none.run pins s2 σ H2 (fun o H3 => o = none ∧ H3 = H2) I2 ⟨rfl, rfl⟩) ?_
  rintro vu s3 ⟨u, H3, I3, pu, rfl, rfl⟩
  refine thn (minus.run pins s3 σ H3 (fun o H4 => o = some (-1) ∧ H4 = H3) I3 ⟨1, rfl, -1, rfl, rfl, rfl⟩) ?_
  rintro vs s4 ⟨o, H4, I4, ps, rfl, rfl⟩
  have I5 : Inv X pins σ H4 { s4 with heap := s4.heap.push { cls := .type "slice", data := .fields #[vl, vu, vs] } } := I4.kept (t' := s4.toks) fun b ob q => Heap.get?_push_of_some _ q
  obtain ⟨its, r, ht, hz⟩ := I5.tuple hx
  have same := r.length
  cases pl
  cases pu
  cases ps with
  | int _ tk =>
    show wpAny (model X.prog X.w) X.A (subscriptTail e (.Slice none none (some (.UnaryOp .USub (.Constant (.int 1) k p1) p2)) p3) (.ref a) (.ref s4.heap.objs.size)) (EP X pins σ Q) X.xe { s4 with heap := s4.heap.push { cls := .type "slice", data := .fields #[.none, .none, .int (-1) tk] } }
    refine tail_any (ops := [.ref a, .ref s4.heap.objs.size]) ht.typeIs PyProof.Rows.slot_tuple_getitem.lookup ?_ (by with_unfolding_all rfl)
    refine getItem_tuple_rev ht (Heap.IsSliceOf.new _ .none .none (.int (-1) tk)) ?_ (by rw [List.size_toArray]; omega)
    refine ⟨.ref _, _, I5.laid (t' := s4.toks) (o := .tup xs.reverse) (fun b ob q => Heap.get?_push_of_some _ q) (Nat.le_refl _) ?_, rfl, q _ (I5.hok.fresh (Nat.le_refl _))⟩
    exact ⟨by rw [List.length_reverse]; exact hz, _, r.reverse, ⟨_, Heap.get?_push_size _ rfl, rfl, _, rfl⟩⟩
end
end Vf

set_option Elab.async false
set_option linter.all false
set_option maxRecDepth 100000
/-! A list set aside (the pool that a law draws from); tuples cut and joined, the new one or the same. -/
namespace Vf
open PySem PySem.Spec PyProof.Rows L2

/-- the heap without one address -/
def wo (p : Addr) (H : Hp) : Hp := fun b => if b = p then none else H b
theorem wo_ne {p b : Addr} {H : Hp} (h : b ≠ p) : wo p H b = H b := by
  unfold wo
  rw [if_neg h]
theorem wo_at {p : Addr} {H : Hp} : wo p H p = none := by
  unfold wo
  rw [if_pos rfl]
theorem wo_same {p : Addr} {H : Hp} : Same (wo p H) H := fun b o e => by
  by_cases h : b = p
  · subst h
    rw [wo_at] at e
    cases e
  · rw [wo_ne h] at e
    exact e
/-- all but one address is as it was -/
def But (p : Addr) (H H' : Hp) : Prop := ∀ b o, b ≠ p → H b = some o → H' b = some o
theorem But.refl {p : Addr} {H : Hp} : But p H H := fun _ _ _ h => h
theorem But.trans {p : Addr} {H H1 H2 : Hp} (a : But p H H1) (b : But p H1 H2) : But p H H2 := fun c o n h => b c o n (a c o n h)
theorem But.of {p : Addr} {H H' : Hp} (s : Same H H') : But p H H' := fun b o _ h => s b o h
theorem But.at {p : Addr} {H : Hp} {o : HO} : But p H (upd H p o) := fun b u n h => by
  rw [upd_ne n]
  exact h
theorem But.wo {p : Addr} {H H' : Hp} (h : But p H H') : Same (wo p H) (wo p H') := fun b o e => by
  by_cases n : b = p
  · subst n
    rw [wo_at] at e
    cases e
  · rw [wo_ne n] at e ⊢
    exact h b o n e
/-- what stood ahead of a new object stands beside it -/
theorem same_wo {c : Addr} {H : Hp} {o : HO} (h : H c = none) : Same H (wo c (upd H c o)) := fun b u e => by
  have n := ne_of_none e h
  rw [wo_ne n, upd_ne n]
  exact e
section
variable {K : PySem.W.Frag} {H H' : Hp} {p : Addr}
theorem sqT_wo {t : Addr} {xs : List V} (h : SqT K H t xs) {l : List V} (hp : H p = some (.lst l)) : SqT K (wo p H) t xs := by
  rcases h with (h | ⟨o, h⟩) | h
  · exact .inl (.inl (by rw [wo_ne (ne_of h hp (by simp))]; exact h))
  · exact .inl (.inr ⟨o, by rw [wo_ne (ne_of h hp (by simp))]; exact h⟩)
  · exact .inr h
theorem sqL_wo {t : Addr} {xs : List V} (n : t ≠ p) (h : SqL K H t xs) : SqL K (wo p H) t xs := by
  rcases h with (h | ⟨o, h⟩) | h
  · exact .inl (.inl (by rw [wo_ne n]; exact h))
  · exact .inl (.inr ⟨o, by rw [wo_ne n]; exact h⟩)
  · exact .inr h
theorem sqL_wo_at {H H' : Hp} {p l : Addr} {xs : List V} (b : But p H H') (n : l ≠ p) (h : SqL K H l xs) : SqL K H' l xs := wo_same.seq (b.wo.seq (sqL_wo n h))
end
section
variable {X : Cx}
/-- t + u, told as some tuple -/
def rCatN (K : PySem.W.Frag) : R2 := fun x y H Q => ∃ a b xs ys, x = .ref a ∧ y = .ref b ∧ SqT K H a xs ∧ SqT K H b ys ∧ xs.length + ys.length ≤ sizeLine ∧ ∀ t H', Same H H' → SqT K H' t (xs ++ ys) → Q (.ref t) H'
theorem op_catN : OpR X (binaryOp .Add) (rCatN X.K) := by
  intro pins s σ H x y v u Q I rx ry h
  obtain ⟨a, b, xs, ys, ex, ey, ha, hb, hz, q⟩ := h
  refine op_catA pins s σ H x y v u Q I rx ry ⟨a, b, xs, ys, ex, ey, ha, hb, hz, fun e => ?_, fun _ e => ?_, fun _ _ p hp => ?_⟩
  · subst e
    exact q b H (Same.refl H) hb
  · subst e
    exact q a H (Same.refl H) (by rw [List.append_nil]; exact ha)
  · exact q p _ (same_new hp) sqT_new
/-- t[i:j], told as some tuple -/
def rSlN (K : PySem.W.Frag) : V → Option Int → Option Int → Hp → VK → Prop := fun x lo hi H Q => ∃ a xs, x = .ref a ∧ SqT K H a xs ∧ ∀ t H', Same H H' → SqT K H' t (cutV xs lo hi) → Q (.ref t) H'
theorem cut_whole {xs : List V} {lo hi : Option Int} (h : HT.sIx xs.length 0 lo = 0 ∧ HT.sIx xs.length xs.length hi = xs.length) : cutV xs lo hi = xs := by
  unfold cutV
  rw [h.1, h.2]
  simp
theorem sl_tupN : SlR X (rSlN X.K) := by
  intro pins s σ H x v vl vu lo hi sl Q I rx hs pl pu h
  obtain ⟨a, xs, ex, hx, q⟩ := h
  refine sl_tupA pins s σ H x v vl vu lo hi sl Q I rx hs pl pu ⟨a, xs, ex, hx, fun e => ?_, fun _ p hp => ?_⟩
  · exact q a H (Same.refl H) (by rw [cut_whole e]; exact hx)
  · exact q p _ (same_new hp) sqT_new
end
/-- t[:i] -/
theorem cut_to (xs : List V) (i : Nat) : cutV xs none (some (i : Int)) = xs.take i := by
  unfold cutV
  rw [HT.sIx_none, HT.sIx_nat]
  simp only [List.drop_zero, Nat.sub_zero]
  by_cases h : i ≤ xs.length
  · rw [Nat.min_eq_left h]
  · rw [Nat.min_eq_right (by omega), List.take_of_length_le (Nat.le_refl _), List.take_of_length_le (by omega)]
/-- t[i:] -/
theorem cut_from (xs : List V) (i : Nat) : cutV xs (some (i : Int)) none = xs.drop i := by
  unfold cutV
  rw [HT.sIx_none, HT.sIx_nat]
  by_cases h : i ≤ xs.length
  · rw [Nat.min_eq_left h]
    exact List.take_of_length_le (by rw [List.length_drop]; exact Nat.le_refl _)
  · rw [Nat.min_eq_right (by omega), List.drop_of_length_le (Nat.le_refl _), List.drop_of_length_le (by omega)]
    simp
end Vf

set_option Elab.async false
set_option linter.all false
set_option maxRecDepth 100000
set_option exponentiation.threshold 3000
/-! Where the text stands in the statement. -/
namespace Vf
open PySem L2
def topS (i : Nat) : Stmt := PySem.Challenge.pw_boxregions_k01_squares_and_boxes_judged.main.body.getD i (.Pass ⟨0, 0, 0, 0⟩)
abbrev sWhole : Stmt := topS 1
abbrev sAre : Stmt := topS 2
abbrev sSq : Stmt := topS 4
abbrev sBox : Stmt := topS 5
abbrev sPool : Stmt := topS 7
abbrev sTake : Stmt := topS 8
abbrev sIsT : Stmt := topS 9
abbrev sJud : Stmt := topS 10
abbrev sBent : Stmt := topS 11
abbrev sLaw : Stmt := topS 12
end Vf

set_option Elab.async false
set_option linter.all false
set_option maxRecDepth 100000
set_option exponentiation.threshold 3000
/-! Squares and boxes judged. -/
namespace Vf
open PySem PySem.Spec PyProof.Rows L2
open C8 (pss_cut tCut)
theorem scWhole : FnScope ["thing"] ["thing"] (defScope sWhole) := ⟨rfl, rfl, rfl, by decide +kernel, rfl, by decide +kernel, by decide +kernel⟩
theorem scAre : FnScope ["thing", "many", "item"] ["thing", "many"] (defScope sAre) := ⟨rfl, rfl, rfl, by decide +kernel, rfl, by decide +kernel, by decide +kernel⟩
theorem scSq : FnScope ["thing"] ["thing"] (defScope sSq) := ⟨rfl, rfl, rfl, by decide +kernel, rfl, by decide +kernel, by decide +kernel⟩
theorem scBox : FnScope ["thing"] ["thing"] (defScope sBox) := ⟨rfl, rfl, rfl, by decide +kernel, rfl, by decide +kernel, by decide +kernel⟩
/-! ### what a thing is -/
/-- a value that the law hands on: data, or the empty dict -/
def Th (K : PySem.W.Frag) (H : Hp) (v : V) (d : PyData) : Prop := Dp K H v d ∨ ∃ a, v = .ref a ∧ H a = some (.dK []) ∧ d = .dict []
theorem th_ty {K : PySem.W.Frag} {H : Hp} {v : V} {d : PyData} (h : Th K H v d) : TyX K H v (.type (tyName d)) := by
  rcases h with h | ⟨a, rfl, h, rfl⟩
  · exact tyX_dp h
  · exact .base (.dK h)
theorem th_same {K : PySem.W.Frag} {H H' : Hp} {v : V} {d : PyData} (s : Same H H') (h : Th K H v d) : Th K H' v d := by
  rcases h with h | ⟨a, rfl, h, rfl⟩
  · exact .inl (dp_same s h)
  · exact .inr ⟨a, rfl, s _ _ h, rfl⟩
def isWhole : PyData → Bool
  | .int _ => true
  | _ => false
def isIB : PyData → Bool
  | .int _ => true
  | .bool _ => true
  | _ => false
def isB : PyData → Bool
  | .bool _ => true
  | _ => false
def isTup : PyData → Bool
  | .tuple _ => true
  | _ => false
theorem kit_int (d : PyData) : kitB (tyName d) "int" = some (isIB d) := by cases d <;> (simp only [tyName, isIB, isB, isTup]; decide +kernel)
theorem kit_bool (d : PyData) : kitB (tyName d) "bool" = some (isB d) := by cases d <;> (simp only [tyName, isIB, isB, isTup]; decide +kernel)
theorem kit_tup (d : PyData) : kitB (tyName d) "tuple" = some (isTup d) := by cases d <;> (simp only [tyName, isIB, isB, isTup]; decide +kernel)
def areWhole (n : Int) : PyData → Bool
  | .tuple ds => decide ((ds.length : Int) = n) && ds.all isWhole
  | _ => false

section
variable {P : Program} {w : World} {K : PySem.W.Frag} {mg : Str → Option Value} {base : Heap}
/-! ### is_whole -/
def spWhole (K : PySem.W.Frag) : Sp := fun vs H Q _ => ∃ v d, vs = [v] ∧ Th K H v d ∧ Q (.bl (isWhole d)) H
theorem ok_whole {f : Addr} {fd : FuncData} {k : Nat} (F : Fun K "is_whole" "is_whole" sWhole f fd) (mi : mg "isinstance" = none) (mI : mg "int" = none) (mB : mg "bool" = none) : FnOk P w K mg base CX0 (k + 1) f fd ["thing"] (spWhole K) := by
  have nd := scWhole.nd
  refine F.ok scWhole (fun vs H Q E h => ?_) (fun cdv A outer s H vs Q E hr h => ?_)
  · obtain ⟨v, d, rfl, _⟩ := h
    rfl
  · obtain ⟨v, d, rfl, hd, q⟩ := h
    have ty := th_ty hd
    refine ⟨_, (pss_one (ps_ret (pe_and (pe_callB call_isi (by rfl) mi (by decide +kernel) (pa_cons (pv 0) (pa_cons (pe_bltn (v := .ty "int") (by rfl) mI (by decide +kernel) rfl) pa_nil))) (pe_one (pe_not (pe_callB call_isi (by rfl) mi (by decide +kernel) (pa_cons (pv 0) (pa_cons (pe_bltn (v := .ty "bool") (by rfl) mB (by decide +kernel) rfl) pa_nil)))))))), ?_⟩
    refine ⟨v, rfl, v, .ty "int", _, _, _, rfl, .ty _, ty, kit_ty (kit_int d), _, rfl, ?_⟩
    cases d with
    | int i => exact iteT ⟨v, rfl, v, .ty "bool", _, _, _, rfl, .ty _, ty, kit_ty (kit_bool (.int i)), _, rfl, q⟩
    | bool b => exact iteT ⟨v, rfl, v, .ty "bool", _, _, _, rfl, .ty _, ty, kit_ty (kit_bool (.bool b)), _, rfl, q⟩
    | none => exact iteF q
    | str x => exact iteF q
    | list x => exact iteF q
    | tuple x => exact iteF q
    | dict x => exact iteF q
/-! ### are_whole -/
theorem small_of {n : Nat} (h : n ≤ 1000) : n ≤ sizeLine := Nat.le_of_lt (small1000 h)
def spAre (K : PySem.W.Frag) : Sp := fun vs H Q _ => ∃ v d n, vs = [v, .int n] ∧ Th K H v d ∧ (∀ ds, d = .tuple ds → ds.length ≤ 1000) ∧ ∀ H', Same H H' → Q (.bl (areWhole n d)) H'
theorem ok_are {f fW : Addr} {fd fdW : FuncData} {k : Nat} (F : Fun K "are_whole" "are_whole" sAre f fd) (FW : Fun K "is_whole" "is_whole" sWhole fW fdW) (bW : Binds K fdW ["thing"] []) (gW : mg "is_whole" = some (.ref fW))
    (mi : mg "isinstance" = none) (mI : mg "int" = none) (mB : mg "bool" = none) (mT : mg "tuple" = none) (ml : mg "len" = none) (ma : mg "all" = none) : FnOk P w K mg base CX0 (k + 2) f fd ["thing", "many"] (spAre K) := by
  have nd := scAre.nd
  refine F.ok scAre (fun vs H Q E h => ?_) (fun cdv A outer s H vs Q E hr h => ?_)
  · obtain ⟨v, d, n, rfl, _⟩ := h
    rfl
  · obtain ⟨v, d, n, rfl, hd, hsz, q⟩ := h
    have ty := th_ty hd
    have GW : FnOk P w K mg base CX0 (k + 1) fW fdW ["thing"] (spWhole K) := ok_whole FW mi mI mB
    refine ⟨_, (pss_one (ps_ret (pe_and (pe_callB call_isi (by rfl) mi (by decide +kernel) (pa_cons (pv 0) (pa_cons (pe_bltn (v := .ty "tuple") (by rfl) mT (by decide +kernel) rfl) pa_nil))) (pe_and (pe_cmpR op_eq (pe_callB call_len_seq (by rfl) ml PySem.boot_len (pa_cons (pv 0) pa_nil)) (pv 1) (nomark _)) (pe_one (pe_callB (cr_all rfl) (by rfl) ma (by decide +kernel) (pa_cons (pe_lc (own := [("item", 2)]) (g := gName 2) (tt := tYes) rfl nd (pi_tup (pv 0)) (blkOk_by (N := ["thing", "many", "item"]) (sc := defScope sAre) (by decide +kernel)) (fun _ _ _ _ _ => (pg_name (i := 2) nd rfl (Or.inl rfl))) (fun _ _ _ _ _ => pts_nil) (fun _ _ _ _ _ => (pe_call GW hr (by rfl) gW FW.kp bW .nil pass0 (pa_cons (pv 2) pa_nil)))) pa_nil))))))), ?_⟩
    refine ⟨v, rfl, v, .ty "tuple", _, _, _, rfl, .ty _, ty, kit_ty (kit_tup d), _, rfl, ?_⟩
    have no : isTup d = false → areWhole n d = false := fun e => by
      cases d <;> first | rfl | (cases e)
    by_cases ht : isTup d = true
    · cases d with
      | tuple ds =>
        have hds := hsz ds rfl
        rcases hd with hd | ⟨_, _, _, z⟩
        · cases hd with
          | @tup a xs _ hs ha =>
            have hlen := dpAll_len ha
            refine iteT ⟨.ref a, rfl, a, xs, rfl, .inr hs, .int n, rfl, rfl, _, rfl, ite2 (fun e => ?_) (fun e => ?_)⟩
            · have en : ((xs.length : Nat) : Int) = n := V.int.inj (of_decide_eq_true e)
              refine ⟨.ref a, rfl, a, rfl, ⟨_, hs⟩, fun D hD => ?_⟩
              refine lc_tup (K := K) (a := a) (xs := xs) (fun i H' => Same H H' ∧ H' D = some (.lst (((ds.take i).map isWhole).map V.bl))) ⟨same_new hD, upd_same⟩ (fun i H' _ h => sqT_same h.1 hs) (fun i x H' hx hp => ?_) (fun H' hp => ?_)
              · obtain ⟨hS, hL⟩ := hp
                obtain ⟨dx, hdx, hx2⟩ := dpAll_get ha hx
                have hiL : i < ds.length := (List.getElem?_eq_some_iff.mp hdx).1
                refine ⟨rfl, x, rfl, x, dx, rfl, .inl (dp_same hS hx2), _, hL, ?_, ?_, ?_⟩
                · rw [List.length_map, List.length_map, List.length_take]
                  exact small1000 (by omega)
                · intro b o e
                  have hb : b ≠ D := ne_of_none e hD
                  rw [upd_ne hb]
                  exact hS b o e
                · rw [upd_same, List.take_add_one, hdx, List.map_append, List.map_append]
                  rfl
              · obtain ⟨hS, hL⟩ := hp
                rw [hlen, List.take_length] at hL
                refine ⟨D, _, rfl, .inl (.inl hL), ?_⟩
                have := q H' hS
                have e2 : areWhole n (.tuple ds) = (ds.map isWhole).all id := by
                  show (decide ((ds.length : Int) = n) && ds.all isWhole) = _
                  rw [← hlen, decide_eq_true en, List.all_map, Bool.true_and]
                  rfl
                rw [e2] at this
                exact this
            · have e2 : areWhole n (.tuple ds) = false := by
                show (decide ((ds.length : Int) = n) && ds.all isWhole) = _
                rw [← hlen, decide_eq_false (fun z => e (decide_eq_true (congrArg V.int z))), Bool.false_and]
              have := q H (Same.refl H)
              rw [e2] at this
              exact this
        · cases z
      | _ => cases ht
    · have hf : isTup d = false := by simpa using ht
      rw [hf]
      have := q H (Same.refl H)
      rw [no hf] at this
      exact iteF this
/-! ### is_square, is_box -/
def isBox : PyData → Bool
  | .tuple [.int a, .int b, .int c, .int e] => decide (a < c) && decide (b < e)
  | _ => false
theorem whole_int {d : PyData} (h : isWhole d = true) : ∃ i, d = .int i := by
  cases d with
  | int i => exact ⟨i, rfl⟩
  | _ => cases h
theorem are4 {d : PyData} (h : areWhole 4 d = true) : ∃ a b c e, d = .tuple [.int a, .int b, .int c, .int e] := by
  cases d with
  | tuple ds =>
    have h' : (decide ((ds.length : Int) = 4) && ds.all isWhole) = true := h
    rw [Bool.and_eq_true] at h'
    have hl := of_decide_eq_true h'.1
    match ds, hl, h'.2 with
    | [d1, d2, d3, d4], _, ha =>
      simp only [List.all_cons, List.all_nil, Bool.and_eq_true, Bool.and_true] at ha
      obtain ⟨a, rfl⟩ := whole_int ha.1
      obtain ⟨b, rfl⟩ := whole_int ha.2.1
      obtain ⟨c, rfl⟩ := whole_int ha.2.2.1
      obtain ⟨e, rfl⟩ := whole_int ha.2.2.2
      exact ⟨a, b, c, e, rfl⟩
    | [], hl, _ => simp at hl
    | [_], hl, _ => simp at hl
    | [_, _], hl, _ => simp at hl
    | [_, _, _], hl, _ => simp at hl
    | _ :: _ :: _ :: _ :: _ :: _, hl, _ =>
      simp only [List.length_cons] at hl
      omega
  | _ => cases h
theorem not_box {d : PyData} (h : areWhole 4 d = false) : isBox d = false := by
  unfold isBox
  split
  · cases h
  · rfl
/-- four ints at a tuple -/
theorem dp4 {H : Hp} {v : V} {a b c e : Int} (h : Dp K H v (.tuple [.int a, .int b, .int c, .int e])) : ∃ p, v = .ref p ∧ SqT K H p [.int a, .int b, .int c, .int e] := by
  cases h with
  | tup hs ha =>
    cases ha with
    | cons h1 ha =>
      cases h1
      cases ha with
      | cons h1 ha =>
        cases h1
        cases ha with
        | cons h1 ha =>
          cases h1
          cases ha with
          | cons h1 ha =>
            cases h1
            cases ha
            exact ⟨_, rfl, hs⟩
def spSq (K : PySem.W.Frag) : Sp := fun vs H Q _ => ∃ v d, vs = [v] ∧ Th K H v d ∧ (∀ ds, d = .tuple ds → ds.length ≤ 1000) ∧ ∀ H', Same H H' → Q (.bl (areWhole 2 d)) H'
theorem ok_sq {f fA : Addr} {fd fdA : FuncData} {k : Nat} (F : Fun K "is_square" "is_square" sSq f fd) (GA : FnOk P w K mg base CX0 k fA fdA ["thing", "many"] (spAre K)) (kA : PySem.W.keepIn K (.ref fA) = true) (bA : Binds K fdA ["thing", "many"] []) (gA : mg "are_whole" = some (.ref fA)) :
    FnOk P w K mg base CX0 (k + 1) f fd ["thing"] (spSq K) := by
  have nd := scSq.nd
  refine F.ok scSq (fun vs H Q E h => ?_) (fun cdv A outer s H vs Q E hr h => ?_)
  · obtain ⟨v, d, rfl, _⟩ := h
    rfl
  · obtain ⟨v, d, rfl, hd, hsz, q⟩ := h
    refine ⟨_, (pss_one (ps_ret (pe_call GA hr (by rfl) gA kA bA .nil pass0 (pa_cons (pv 0) (pa_cons pe_int pa_nil))))), ?_⟩
    exact ⟨v, rfl, v, d, 2, rfl, hd, hsz, q⟩
def spBox (K : PySem.W.Frag) : Sp := fun vs H Q _ => ∃ v d, vs = [v] ∧ Th K H v d ∧ (∀ ds, d = .tuple ds → ds.length ≤ 1000) ∧ ∀ H', Same H H' → Q (.bl (isBox d)) H'
theorem ok_box {f fA : Addr} {fd fdA : FuncData} {k : Nat} (F : Fun K "is_box" "is_box" sBox f fd) (GA : FnOk P w K mg base CX0 k fA fdA ["thing", "many"] (spAre K)) (kA : PySem.W.keepIn K (.ref fA) = true) (bA : Binds K fdA ["thing", "many"] []) (gA : mg "are_whole" = some (.ref fA)) :
    FnOk P w K mg base CX0 (k + 1) f fd ["thing"] (spBox K) := by
  have nd := scBox.nd
  refine F.ok scBox (fun vs H Q E h => ?_) (fun cdv A outer s H vs Q E hr h => ?_)
  · obtain ⟨v, d, rfl, _⟩ := h
    rfl
  · obtain ⟨v, d, rfl, hd, hsz, q⟩ := h
    refine ⟨_, (pss_one (ps_ret (pe_and (pe_call GA hr (by rfl) gA kA bA .nil pass0 (pa_cons (pv 0) (pa_cons pe_int pa_nil))) (pe_and (pe_cmpR op_lt (pe_ix ix_tup (pv 0) pe_int (fun _ _ => rfl)) (pe_ix ix_tup (pv 0) pe_int (fun _ _ => rfl)) (nomark _)) (pe_one (pe_cmpR op_lt (pe_ix ix_tup (pv 0) pe_int (fun _ _ => rfl)) (pe_ix ix_tup (pv 0) pe_int (fun _ _ => rfl)) (nomark _))))))), ?_⟩
    refine ⟨v, rfl, v, d, 4, rfl, hd, hsz, fun H' hS => ⟨_, rfl, ?_⟩⟩
    by_cases h4 : areWhole 4 d = true
    · rw [h4]
      obtain ⟨a, b, c, e, rfl⟩ := are4 h4
      rcases hd with hd | ⟨_, _, _, z⟩
      · obtain ⟨p, rfl, hp⟩ := dp4 hd
        have hq := sqT_same hS hp
        refine iteT ⟨.ref p, rfl, p, _, 0, .int a, rfl, rfl, hq, atI_nat (j := 0) rfl, .ref p, rfl, p, _, 2, .int c, rfl, rfl, hq, atI_nat (j := 2) rfl, a, c, rfl, rfl, _, rfl, ite2 (fun e1 => ?_) (fun e1 => ?_)⟩
        · refine ⟨.ref p, rfl, p, _, 1, .int b, rfl, rfl, hq, atI_nat (j := 1) rfl, .ref p, rfl, p, _, 3, .int e, rfl, rfl, hq, atI_nat (j := 3) rfl, b, e, rfl, rfl, ?_⟩
          have := q H' hS
          have e2 : isBox (.tuple [.int a, .int b, .int c, .int e]) = decide (b < e) := by
            show (decide (a < c) && decide (b < e)) = _
            rw [show decide (a < c) = true from e1, Bool.true_and]
          rw [e2] at this
          exact this
        · have := q H' hS
          have e2 : isBox (.tuple [.int a, .int b, .int c, .int e]) = false := by
            show (decide (a < c) && decide (b < e)) = _
            have : decide (a < c) = false := by simpa using e1
            rw [this, Bool.false_and]
          rw [e2] at this
          exact this
      · cases z
    · have hf : areWhole 4 d = false := by simpa using h4
      rw [hf]
      have := q H' hS
      rw [not_box hf] at this
      exact iteF this
end
end Vf

set_option Elab.async false
set_option linter.all false
set_option maxRecDepth 100000
set_option exponentiation.threshold 3000
/-! The pool of a law. -/
namespace Vf
open PySem PySem.Spec PyProof.Rows L2
open C8 (pss_cut tCut)
theorem scPool : FnScope ["_law_script", "_law_k", "_law_cell", "_law_seed"] ["_law_script", "_law_k"] (defScope sPool) := ⟨rfl, rfl, rfl, by decide +kernel, rfl, by decide +kernel, by decide +kernel⟩
theorem scTake : FnScope ["_law_pool_here", "_law_sides", "_law_found"] ["_law_pool_here", "_law_sides"] (defScope sTake) := ⟨rfl, rfl, rfl, by decide +kernel, rfl, by decide +kernel, by decide +kernel⟩
section
variable {P : Program} {w : World} {K : PySem.W.Frag} {mg : Str → Option Value} {base : Heap}
/-! ### the pool -/
/-- a list of two numbers from which the law draws -/
def Pool (H : Hp) (p : Addr) : Prop := ∃ c s : Int, H p = some (.lst [.int c, .int s]) ∧ 0 ≤ c ∧ 0 ≤ s ∧ s < 2147483647
def spTake (_ : PySem.W.Frag) : Sp := fun vs H Q _ => ∃ p n, vs = [.ref p, .int n] ∧ Pool H p ∧ 0 < n ∧ n < 2 ^ 300 ∧ ∀ v o, 0 ≤ v → v < n → Pool (upd H p o) p → Q (.int v) (upd H p o)
theorem ok_take {f : Addr} {fd : FuncData} {k : Nat} (F : Fun K "_law_take" "_law_take" sTake f fd) : FnOk P w K mg base CX0 (k + 1) f fd ["_law_pool_here", "_law_sides"] (spTake K) := by
  have nd := scTake.nd
  refine F.ok scTake (fun vs H Q E h => ?_) (fun cdv A outer st H vs Q E hr h => ?_)
  · obtain ⟨p, n, rfl, _⟩ := h
    rfl
  · obtain ⟨p, n, rfl, ⟨c, s, hp, hc, hs, hs2⟩, hn, hn2, q⟩ := h
    have hw : CDivW c n := wide_div hn (b := 300) (by omega) (by decide) (by decide)
    have hb : SqL K H p [.int c, .int s] := .inl (.inl hp)
    refine ⟨_, (pss_cons (ps_if (pt_cmpR op_gt (pe_ix ix_list (pv 0) pe_int (fun _ _ => rfl)) pe_int (nomark _))
  (pss_cons (ps_set (i := 2) nd rfl (Or.inl rfl) (pe_op op_mod (pe_ix ix_list (pv 0) pe_int (fun _ _ => rfl)) (pv 1)))
  (pss_cons (ps_asg (pe_op op_fdivW (pe_ix ix_list (pv 0) pe_int (fun _ _ => rfl)) (pv 1)) (pg_sub (pv 0) pe_int set_list))
  (pss_one (ps_ret (pv 2)))))
  pss_nil)
  (pss_cons (ps_asg (pe_op op_mod (pe_op op_add (pe_op op_mul (pe_ix ix_list (pv 0) pe_int (fun _ _ => rfl)) pe_int) pe_int) pe_int) (pg_sub (pv 0) pe_int set_list))
  (pss_one (ps_ret (pe_op op_mod (pe_op op_fdivW (pe_op op_mod (pe_op op_mul (pe_ix ix_list (pv 0) pe_int (fun _ _ => rfl)) (pe_ix ix_list (pv 0) pe_int (fun _ _ => rfl))) pe_int) pe_int) (pv 1)))))), ?_⟩
    refine ⟨.ref p, rfl, p, _, 0, .int c, rfl, rfl, hb, atI_nat (j := 0) rfl, c, 0, rfl, rfl, _, rfl, ite2 (fun e => ?_) (fun e => ?_)⟩
    · -- from the great number
      refine ⟨.ref p, rfl, p, _, 0, .int c, rfl, rfl, hb, atI_nat (j := 0) rfl, .int n, rfl, c, n, rfl, rfl, hn, ?_⟩
      refine ⟨.ref p, rfl, p, _, 0, .int c, rfl, rfl, hb, atI_nat (j := 0) rfl, .int n, rfl, c, n, rfl, rfl, hw, ?_⟩
      refine ⟨.ref p, rfl, p, _, 0, 0, rfl, rfl, hp, rfl, ?_⟩
      refine ⟨_, rfl, q (c % n) _ (Int.emod_nonneg _ (by omega)) (Int.emod_lt_of_pos _ hn) ⟨c / n, s, upd_same, Int.ediv_nonneg hc (by omega), hs, hs2⟩⟩
    · refine ⟨.ref p, rfl, p, _, 1, .int s, rfl, rfl, hb, atI_nat (j := 1) rfl, s, 48271, rfl, rfl, .inl ⟨by omega, by omega⟩, s * 48271, 11, rfl, rfl, s * 48271 + 11, 2147483647, rfl, rfl, (show (0 : Int) < 2147483647 by decide), ?_⟩
      have h1 : 0 ≤ (s * 48271 + 11) % 2147483647 := Int.emod_nonneg _ (by decide)
      have h2 : (s * 48271 + 11) % 2147483647 < 2147483647 := Int.emod_lt_of_pos _ (by decide)
      refine ⟨.ref p, rfl, p, _, 1, 1, rfl, rfl, hp, rfl, ?_⟩
      have hb2 : SqL K (upd H p (.lst [.int c, .int ((s * 48271 + 11) % 2147483647)])) p [.int c, .int ((s * 48271 + 11) % 2147483647)] := sqL_new
      refine ⟨.ref p, rfl, p, _, 1, .int ((s * 48271 + 11) % 2147483647), rfl, rfl, hb2, atI_nat (j := 1) rfl, .ref p, rfl, p, _, 1, .int ((s * 48271 + 11) % 2147483647), rfl, rfl, hb2, atI_nat (j := 1) rfl, ((s * 48271 + 11) % 2147483647), ((s * 48271 + 11) % 2147483647), rfl, rfl, .inl ⟨by omega, by omega⟩, ((s * 48271 + 11) % 2147483647) * ((s * 48271 + 11) % 2147483647), 2147483629, rfl, rfl, (show (0 : Int) < 2147483629 by decide), ((s * 48271 + 11) % 2147483647) * ((s * 48271 + 11) % 2147483647) % 2147483629, 64, rfl, rfl, wide_div (by decide) (b := 7) (by decide) (by decide) (by decide), .int n, rfl, _, n, rfl, rfl, hn, ?_⟩
      exact q _ _ (Int.emod_nonneg _ (by omega)) (Int.emod_lt_of_pos _ hn) ⟨c, _, upd_same, hc, h1, h2⟩
def spPool (K : PySem.W.Frag) : Sp := fun vs H Q _ => ∃ (a : Addr) (ns : List Int) (k : Int), vs = [.ref a, .int k] ∧ SqL K H a (ns.map V.int) ∧ ns.length ≤ 1000 ∧ 0 ≤ k ∧ k ≤ 1000 ∧ ∀ p o, H p = none → Pool (upd H p o) p → Q (.ref p) (upd H p o)
theorem ok_pool {f : Addr} {fd : FuncData} {k : Nat} (F : Fun K "_law_pool" "_law_pool" sPool f fd) (ml : mg "len" = none) : FnOk P w K mg base CX0 (k + 1) f fd ["_law_script", "_law_k"] (spPool K) := by
  have nd := scPool.nd
  refine F.ok scPool (fun vs H Q E h => ?_) (fun cdv A outer st H vs Q E hr h => ?_)
  · obtain ⟨a, ns, j, rfl, _⟩ := h
    rfl
  · obtain ⟨a, ns, j, rfl, hS, hl, h0, h1, q⟩ := h
    refine ⟨_, (pss_cons (ps_set (i := 2) nd rfl (Or.inl rfl) pe_int)
  (pss_cut (ps_if (pt_cmpR op_lt (pv 1) (pe_callB call_len_seq (by rfl) ml PySem.boot_len (pa_cons (pv 0) pa_nil)) (nomark _))
  (pss_one (ps_set (i := 2) nd rfl (Or.inl rfl) (pe_ix ix_list (pv 0) (pv 1) (fun _ _ => rfl))))
  pss_nil)
  (pss_cons (ps_set (i := 3) nd rfl (Or.inl rfl) (pe_op op_mod (pe_op op_mul (pe_op op_add (pe_op op_add (pe_op op_mod (pv 2) pe_int) (pe_op op_mul (pe_op op_mul pe_int (pv 1)) (pv 1))) pe_int) pe_int) pe_int))
  (pss_cut (ps_if (pt_cmpR op_lt (pv 2) (pe_op op_pow pe_int pe_int) (nomark _))
  (pss_one (ps_set (i := 2) nd rfl (Or.inl rfl) pe_int))
  pss_nil)
  (pss_one (ps_ret (pe_lst (pa_cons (pv 2) (pa_cons (pe_op op_add (pe_op op_mod (pe_op op_mul (pv 3) (pv 3)) pe_int) pe_int) pa_nil))))))))), ?_⟩
    refine ⟨fun σ H' => H' = H ∧ ∃ c : Int, σ = [some (.ref a), some (.int j), some (.int c), none], ?_, ?_⟩
    · refine ⟨.int j, rfl, .ref a, rfl, a, _, rfl, .inl hS, j, _, rfl, rfl, _, rfl, ite2 (fun e => ?_) (fun e => ?_)⟩
      · have e' : j < ((ns.map V.int).length : Int) := of_decide_eq_true e
        rw [List.length_map] at e'
        obtain ⟨m, rfl⟩ : ∃ m : Nat, j = m := ⟨j.toNat, by omega⟩
        have hm : m < ns.length := by omega
        refine ⟨.ref a, rfl, .int m, rfl, a, _, (m : Int), .int ns[m], rfl, rfl, hS, atI_nat (j := m) ?_, rfl, ns[m], rfl⟩
        rw [List.getElem?_map, List.getElem?_eq_getElem hm]
        rfl
      · exact ⟨rfl, 0, rfl⟩
    · rintro σ' H' ⟨rfl, c, rfl⟩
      have b1 : 0 ≤ c % 2147483629 := Int.emod_nonneg _ (by decide)
      have b2 : c % 2147483629 < 2147483629 := Int.emod_lt_of_pos _ (by decide)
      have b3 : 0 ≤ 7919 * j * j := Int.mul_nonneg (by omega) h0
      have b4 : 7919 * j * j ≤ 7919 * 1000 * 1000 := Int.mul_le_mul (by omega) h1 h0 (by omega)
      refine ⟨.int c, rfl, c, 2147483629, rfl, rfl, (show (0 : Int) < 2147483629 by decide), .int j, rfl, 7919, j, rfl, rfl, .inl ⟨by omega, by omega⟩, .int j, rfl, 7919 * j, j, rfl, rfl, .inl ⟨by omega, by omega⟩,
        c % 2147483629, 7919 * j * j, rfl, rfl, c % 2147483629 + 7919 * j * j, 13, rfl, rfl, c % 2147483629 + 7919 * j * j + 13, 48271, rfl, rfl, .inl ⟨by omega, by omega⟩, _, 2147483647, rfl, rfl, (show (0 : Int) < 2147483647 by decide), ?_⟩
      have c1 : 0 ≤ (c % 2147483629 + 7919 * j * j + 13) * 48271 % 2147483647 := Int.emod_nonneg _ (by decide)
      have c2 : (c % 2147483629 + 7919 * j * j + 13) * 48271 % 2147483647 < 2147483647 := Int.emod_lt_of_pos _ (by decide)
      refine ⟨fun σ H2 => H2 = H' ∧ ∃ e : Int, 0 ≤ e ∧ σ = [some (.ref a), some (.int j), some (.int e), some (.int ((c % 2147483629 + 7919 * j * j + 13) * 48271 % 2147483647))], ?_, ?_⟩
      · refine ⟨.int c, rfl, 10, 18, rfl, rfl, ⟨by decide, by decide, by decide⟩, c, _, rfl, rfl, _, rfl, ite2 (fun e => ?_) (fun e => ?_)⟩
        · exact ⟨rfl, 0, Int.le_refl 0, rfl⟩
        · have e' : ¬ c < 10 ^ (18 : Int).toNat := fun z => e (decide_eq_true z)
          have e2 : (10 : Int) ^ (18 : Int).toNat = 1000000000000000000 := by decide
          rw [e2] at e'
          exact ⟨rfl, c, by omega, rfl⟩
      · rintro σ' H2 ⟨rfl, e, he, rfl⟩
        generalize (c % 2147483629 + 7919 * j * j + 13) * 48271 % 2147483647 = z at c1 c2
        have d1 : 0 ≤ z * z % 2147483587 := Int.emod_nonneg _ (by decide)
        have d2 : z * z % 2147483587 < 2147483587 := Int.emod_lt_of_pos _ (by decide)
        refine ⟨.int e, rfl, .int z, rfl, .int z, rfl, z, z, rfl, rfl, .inl ⟨by omega, by omega⟩, z * z, 2147483587, rfl, rfl, (show (0 : Int) < 2147483587 by decide), z * z % 2147483587, 1, rfl, rfl, (by show 2 ≤ sizeLine; decide), fun p hp => ?_⟩
        exact q p _ hp ⟨e, _, upd_same, he, by omega, by omega⟩
theorem pool_same {H H' : Hp} {p : Addr} (h : Pool H p) (s : Same H H') : Pool H' p := by
  obtain ⟨c, z, e, r⟩ := h
  exact ⟨c, z, s _ _ e, r⟩
theorem pool_ne {H : Hp} {p q : Addr} (h : Pool H p) (n : H q = none) : q ≠ p := by
  rintro rfl
  obtain ⟨c, z, e, r⟩ := h
  rw [e] at n
  cases n
theorem sqT_pool {H : Hp} {p t : Addr} {xs : List V} (h : Pool H p) (s : SqT K H t xs) : SqT K (wo p H) t xs := by
  obtain ⟨c, z, e, r⟩ := h
  exact sqT_wo s e
end
end Vf

set_option Elab.async false
set_option linter.all false
set_option maxRecDepth 100000
set_option exponentiation.threshold 3000
/-! Law k01. -/
namespace Vf
open PySem PySem.Spec PyProof.Rows L2
open C8 (pss_cut tCut)
theorem scIsT : FnScope ["_law_thing", "_law_many", "_law_one"] ["_law_thing", "_law_many"] (defScope sIsT) := ⟨rfl, rfl, rfl, by decide +kernel, rfl, by decide +kernel, by decide +kernel⟩
theorem scJud : FnScope ["_law_thing", "_law_right"] ["_law_thing"] (defScope sJud) := ⟨rfl, rfl, rfl, by decide +kernel, rfl, by decide +kernel, by decide +kernel⟩
theorem scBent : FnScope ["_law_pool_here", "_law_thing", "_law_at", "_law_odd", "_law_some"] ["_law_pool_here", "_law_thing"] (defScope sBent) := ⟨rfl, rfl, rfl, by decide +kernel, rfl, by decide +kernel, by decide +kernel⟩
section
variable {P : Program} {w : World} {K : PySem.W.Frag} {mg : Str → Option Value} {base : Heap}
/-! ### the law's own judgement -/
/-- data small enough to be compared and shown -/
structure Fit (d : PyData) : Prop where
  nice : nice d = true
  deep : d.depth ≤ 50
  wide : wide d ≤ 900000
  many : ∀ ds, d = .tuple ds → ds.length ≤ 1000
def odd (d : PyData) : Bool := !isIB d || isB d
theorem odd_whole (d : PyData) : odd d = !isWhole d := by cases d <;> rfl
theorem odd_none : ∀ ds : List PyData, (ds.filter odd).isEmpty = ds.all isWhole
  | [] => rfl
  | d :: ds => by
    rw [List.filter_cons, List.all_cons, odd_whole]
    cases isWhole d with
    | true => simpa using odd_none ds
    | false => rfl
def spIsT (K : PySem.W.Frag) : Sp := fun vs H Q _ => ∃ v d n, vs = [v, .int n] ∧ Dp K H v d ∧ Fit d ∧ ∀ H', Same H H' → Q (.bl (areWhole n d)) H'
theorem ok_isT {f : Addr} {fd : FuncData} {k : Nat} (F : Fun K "_law_is_tuple" "_law_is_tuple" sIsT f fd)
    (mi : mg "isinstance" = none) (mI : mg "int" = none) (mB : mg "bool" = none) (mT : mg "tuple" = none) (ml : mg "len" = none) : FnOk P w K mg base CX0 (k + 1) f fd ["_law_thing", "_law_many"] (spIsT K) := by
  have nd := scIsT.nd
  refine F.ok scIsT (fun vs H Q E h => ?_) (fun cdv A outer st H vs Q E hr h => ?_)
  · obtain ⟨v, d, n, rfl, _⟩ := h
    rfl
  · obtain ⟨v, d, n, rfl, hd, fit, q⟩ := h
    have ty := tyX_dp hd
    refine ⟨_, (pss_cons (ps_if (PW.pt (pw_or (pt_not (pt_val (pe_callB call_isi (by rfl) mi (by decide +kernel) (pa_cons (pv 0) (pa_cons (pe_bltn (v := .ty "tuple") (by rfl) mT (by decide +kernel) rfl) pa_nil))))) (pw_or1 (pt_cmpR op_ne (pe_callB call_len_seq (by rfl) ml PySem.boot_len (pa_cons (pv 0) pa_nil)) (pv 1) (nomark _)))))
  (pss_one (ps_ret pe_bl))
  pss_nil)
  (pss_one (ps_ret (pe_cmpR (op_eqD hr.units) (pe_lc (own := [("_law_one", 2)]) (g := gName 2) rfl nd (pi_tup (pv 0)) (blkOk_by (N := ["_law_thing", "_law_many", "_law_one"]) (sc := defScope sIsT) (by decide +kernel)) (fun _ _ _ _ _ => (pg_name (i := 2) nd rfl (Or.inl rfl))) (fun _ _ _ _ _ => (pts_one (PW.pt (pw_or (pt_not (pt_val (pe_callB (id := "isinstance") (r := rIsi K) call_isi (by rfl) mi (by decide +kernel) (pa_cons (pv 2) (pa_cons (pe_bltn (v := .ty "int") (by rfl) mI (by decide +kernel) rfl) pa_nil))))) (pw_or1 (pt_val (pe_callB (id := "isinstance") (r := rIsi K) call_isi (by rfl) mi (by decide +kernel) (pa_cons (pv 2) (pa_cons (pe_bltn (v := .ty "bool") (by rfl) mB (by decide +kernel) rfl) pa_nil))))))))) (fun _ _ _ _ _ => (pv 2))) (pe_lst pa_nil) (nomark _))))), ?_⟩
    refine ⟨v, rfl, v, .ty "tuple", _, _, _, rfl, .ty _, ty, kit_ty (kit_tup d), _, rfl, ?_⟩
    by_cases ht : isTup d = true
    · cases d with
      | tuple ds =>
        have hds := fit.many ds rfl
        cases hd with
        | @tup a xs _ hs ha =>
          have hlen := dpAll_len ha
          refine iteF ⟨.ref a, rfl, a, xs, rfl, .inr hs, .int n, rfl, rfl, _, rfl, ?_⟩
          have val : areWhole n (.tuple ds) = (decide ((xs.length : Int) = n) && ds.all isWhole) := by
            rw [hlen]
            rfl
          by_cases en : ((xs.length : Nat) : Int) = n
          · rw [show decide (V.int ((xs.length : Nat) : Int) = V.int n) = true from decide_eq_true (congrArg V.int en)]
            refine iteF ⟨.ref a, rfl, a, rfl, ⟨_, hs⟩, fun D hD => ?_⟩
            refine lc_tup (K := K) (a := a) (xs := xs) (fun i H' => Same H H' ∧ ∃ ys, H' D = some (.lst ys) ∧ DpAll K H ys ((ds.take i).filter odd) ∧ ys.length ≤ i) ⟨same_new hD, [], upd_same, .nil, Nat.le_refl _⟩ (fun i H' _ h => sqT_same h.1 hs) (fun i x H' hx hp => ?_) (fun H' hp => ?_)
            · obtain ⟨hS, ys, hL, hY, hn⟩ := hp
              obtain ⟨dx, hdx, hx2⟩ := dpAll_get ha hx
              have hiL : i < ds.length := (List.getElem?_eq_some_iff.mp hdx).1
              have tyx := tyX_dp (dp_same hS hx2)
              have e1 : (ds.take (i + 1)).filter odd = (ds.take i).filter odd ++ (if odd dx = true then [dx] else []) := by
                rw [List.take_add_one, hdx, List.filter_append]
                show _ ++ List.filter odd [dx] = _
                rw [List.filter_cons]
                rfl
              refine ⟨rfl, x, rfl, x, .ty "int", _, _, _, rfl, .ty _, tyx, kit_ty (kit_int dx), _, rfl, ?_⟩
              have keep : odd dx = true → ∀ z, z = dx → ∃ y, some (some x) = some (some y) ∧ ∃ acc, H' D = some (.lst acc) ∧ acc.length < sizeLine ∧ (Same H (upd H' D (.lst (acc ++ [y]))) ∧ ∃ ys, upd H' D (.lst (acc ++ [y])) D = some (.lst ys) ∧ DpAll K H ys ((ds.take (i + 1)).filter odd) ∧ ys.length ≤ i + 1) := by
                intro ho z hz
                refine ⟨x, rfl, ys, hL, small1000 (by omega), ?_, ys ++ [x], upd_same, ?_, by rw [List.length_append]; exact Nat.add_le_add_right hn 1⟩
                · intro b o e
                  rw [upd_ne (ne_of_none e hD)]
                  exact hS b o e
                · rw [e1, if_pos ho]
                  exact dpAll_app hY (.cons hx2 .nil)
              have drop : odd dx = false → (Same H H' ∧ ∃ ys, H' D = some (.lst ys) ∧ DpAll K H ys ((ds.take (i + 1)).filter odd) ∧ ys.length ≤ i + 1) := by
                intro ho
                refine ⟨hS, ys, hL, ?_, by omega⟩
                rw [e1, ho, if_neg (by simp), List.append_nil]
                exact hY
              cases hi : isIB dx with
              | false => exact iteT (iteT (keep (by unfold odd; rw [hi]; rfl) dx rfl))
              | true =>
                refine iteF ⟨x, rfl, x, .ty "bool", _, _, _, rfl, .ty _, tyx, kit_ty (kit_bool dx), _, rfl, ?_⟩
                cases hb : isB dx with
                | true => exact iteT (keep (by unfold odd; rw [hi, hb]; rfl) dx rfl)
                | false => exact iteF (drop (by unfold odd; rw [hi, hb]; rfl))
            · obtain ⟨hS, ys, hL, hY, hn⟩ := hp
              rw [hlen, List.take_length] at hY
              refine ⟨Nat.zero_le _, fun e he => ?_⟩
              have hS2 : Same H (upd H' e (.lst [])) := hS.trans (same_new he)
              have nice : niceAll (ds.filter odd) = true := niceAll_mem.mpr fun d hd => niceAll_mem.mp (by have := fit.nice; simp only [Vf.nice] at this; exact this) d (List.mem_filter.mp hd).1
              have deep : PyData.depth (.list (ds.filter odd)) ≤ 64 := by
                have h1 := fit.deep
                simp only [PyData.depth] at h1 ⊢
                have h2 : PyData.depthAll (ds.filter odd) ≤ 49 := depthAll_mem.mpr fun d hd => depthAll_mem.mp (show PyData.depthAll ds ≤ 49 by omega) d (List.mem_filter.mp hd).1
                omega
              refine ⟨.list (ds.filter odd), .list [], .lst (.inl (.inl (same_new he D _ hL))) (dpAll_same hS2 hY), .lst sqL_new .nil, shaped_of (by simp only [Vf.nice]; exact nice) deep, (by decide), ?_⟩
              have := q _ hS2
              rw [val, decide_eq_true en, Bool.true_and] at this
              have e2 : PyData.eqv (.list (ds.filter odd)) (.list []) = ds.all isWhole := by
                simp only [PyData.eqv, eqvAll_nil]
                exact odd_none ds
              rw [e2]
              exact this
          · rw [show decide (V.int ((xs.length : Nat) : Int) = V.int n) = false from decide_eq_false fun z => en (V.int.inj z)]
            have := q H (Same.refl H)
            rw [val, decide_eq_false en, Bool.false_and] at this
            exact iteT this
      | _ => cases ht
    · have hf : isTup d = false := by simpa using ht
      have no : areWhole n d = false := by
        cases d <;> first | rfl | (cases hf)
      rw [hf]
      have := q H (Same.refl H)
      rw [no] at this
      exact iteT (iteT this)
def spJud (K : PySem.W.Frag) : Sp := fun vs H Q _ => ∃ v d, vs = [v] ∧ Dp K H v d ∧ Fit d ∧ ∀ H' p, Same H H' → SqL K H' p [.bl (areWhole 2 d), .bl (isBox d)] → Q (.ref p) H'
theorem ok_jud {f fT : Addr} {fd fdT : FuncData} {k : Nat} (F : Fun K "_law_judged" "_law_judged" sJud f fd) (GT : FnOk P w K mg base CX0 k fT fdT ["_law_thing", "_law_many"] (spIsT K)) (kT : PySem.W.keepIn K (.ref fT) = true) (bT : Binds K fdT ["_law_thing", "_law_many"] []) (gT : mg "_law_is_tuple" = some (.ref fT)) :
    FnOk P w K mg base CX0 (k + 1) f fd ["_law_thing"] (spJud K) := by
  have nd := scJud.nd
  refine F.ok scJud (fun vs H Q E h => ?_) (fun cdv A outer st H vs Q E hr h => ?_)
  · obtain ⟨v, d, rfl, _⟩ := h
    rfl
  · obtain ⟨v, d, rfl, hd, fit, q⟩ := h
    refine ⟨_, (pss_cons (ps_set (i := 1) nd rfl (Or.inl rfl) (pe_call GT hr (by rfl) gT kT bT .nil pass0 (pa_cons (pv 0) (pa_cons pe_int pa_nil))))
  (pss_one (ps_ret (pe_lst (pa_cons (pe_call GT hr (by rfl) gT kT bT .nil pass0 (pa_cons (pv 0) (pa_cons pe_int pa_nil))) (pa_cons (pe_and (pv 1) (pe_and (pe_cmpR op_lt (pe_ix ix_tup (pv 0) pe_int (fun _ _ => rfl)) (pe_ix ix_tup (pv 0) pe_int (fun _ _ => rfl)) (nomark _)) (pe_one (pe_cmpR op_lt (pe_ix ix_tup (pv 0) pe_int (fun _ _ => rfl)) (pe_ix ix_tup (pv 0) pe_int (fun _ _ => rfl)) (nomark _))))) pa_nil)))))), ?_⟩
    refine ⟨v, rfl, v, d, 4, rfl, hd, fit, fun H1 s1 => ?_⟩
    refine ⟨v, rfl, v, d, 2, rfl, dp_same s1 hd, fit, fun H2 s2 => ⟨.bl (areWhole 4 d), rfl, _, rfl, ?_⟩⟩
    have s02 := s1.trans s2
    have fin : ∀ b, b = isBox d → [V.bl (areWhole 2 d), V.bl b].length ≤ sizeLine ∧ ∀ p, H2 p = none → Q (.ref p) (upd H2 p (.lst [V.bl (areWhole 2 d), V.bl b])) := by
      rintro b rfl
      exact ⟨(by show 2 ≤ sizeLine; decide), fun p hp => q _ p (s02.trans (same_new hp)) sqL_new⟩
    by_cases h4 : areWhole 4 d = true
    · rw [h4]
      obtain ⟨a, b, c, e, rfl⟩ := are4 h4
      obtain ⟨p, rfl, hp⟩ := dp4 hd
      have hq := sqT_same s02 hp
      refine iteT ⟨.ref p, rfl, p, _, 0, .int a, rfl, rfl, hq, atI_nat (j := 0) rfl, .ref p, rfl, p, _, 2, .int c, rfl, rfl, hq, atI_nat (j := 2) rfl, a, c, rfl, rfl, _, rfl, ite2 (fun e1 => ?_) (fun e1 => ?_)⟩
      · refine ⟨.ref p, rfl, p, _, 1, .int b, rfl, rfl, hq, atI_nat (j := 1) rfl, .ref p, rfl, p, _, 3, .int e, rfl, rfl, hq, atI_nat (j := 3) rfl, b, e, rfl, rfl, ?_⟩
        refine fin (decide (b < e)) ?_
        show _ = (decide (a < c) && decide (b < e))
        rw [show decide (a < c) = true from e1, Bool.true_and]
      · refine fin false ?_
        show _ = (decide (a < c) && decide (b < e))
        have : decide (a < c) = false := by simpa using e1
        rw [this, Bool.false_and]
    · have hf : areWhole 4 d = false := by simpa using h4
      rw [hf]
      exact iteF (fin false (not_box hf).symm)
/-! ### things bent at one place -/
/-- an item of a thing -/
structure Itm (d : PyData) : Prop where
  nice : nice d = true
  deep : d.depth ≤ 1
  wide : wide d ≤ 2000
theorem itm_int {i : Int} (h : i.natAbs.log2 < 1920) : Itm (.int i) := ⟨by simp only [Vf.nice]; exact decide_eq_true h, by simp only [PyData.depth]; omega, by simp only [Vf.wide]; omega⟩
theorem wideAll_le : ∀ {ds : List PyData}, (∀ d ∈ ds, Itm d) → wideAll ds ≤ 2002 * ds.length
  | [], _ => by simp [wideAll]
  | d :: ds, h => by
    have h1 := (h d List.mem_cons_self).wide
    have h2 := wideAll_le (ds := ds) fun e he => h e (List.mem_cons_of_mem _ he)
    simp only [wideAll, List.length_cons]
    omega
theorem fit_tup {ds : List PyData} (hl : ds.length ≤ 20) (h : ∀ d ∈ ds, Itm d) : Fit (.tuple ds) := by
  refine ⟨by simp only [Vf.nice]; exact niceAll_mem.mpr fun d hd => (h d hd).nice, ?_, ?_, fun es e => by cases e; omega⟩
  · simp only [PyData.depth]
    have : PyData.depthAll ds ≤ 1 := depthAll_mem.mpr fun d hd => (h d hd).deep
    omega
  · have := wideAll_le h
    simp only [Vf.wide]
    omega
theorem fit_lst {ds : List PyData} (hl : ds.length ≤ 20) (h : ∀ d ∈ ds, Itm d) : Fit (.list ds) := by
  refine ⟨by simp only [Vf.nice]; exact niceAll_mem.mpr fun d hd => (h d hd).nice, ?_, ?_, fun es e => by cases e⟩
  · simp only [PyData.depth]
    have : PyData.depthAll ds ≤ 1 := depthAll_mem.mpr fun d hd => (h d hd).deep
    omega
  · have := wideAll_le h
    simp only [Vf.wide]
    omega
/-- numbers of a thing -/
def Small (n : Int) : Prop := -(2 ^ 200) ≤ n ∧ n ≤ 2 ^ 200
theorem small_log {n : Int} (h : -(2 ^ 200) - 1 ≤ n ∧ n ≤ 2 ^ 200 + 1) : n.natAbs.log2 < 1920 := by
  refine log2_small ?_
  have h1 : n.natAbs < 2 ^ 201 := by
    obtain ⟨a, b⟩ := h
    omega
  exact Nat.lt_trans h1 (Nat.pow_lt_pow_right (show 1 < 2 by decide) (show 201 < 1920 by decide))
theorem itms {ns : List Int} (h : ∀ n ∈ ns, Small n) : ∀ d ∈ ns.map PyData.int, Itm d := fun d hd => by
  obtain ⟨n, hn, rfl⟩ := List.mem_map.mp hd
  obtain ⟨a, b⟩ := h n hn
  exact itm_int (small_log ⟨by omega, by omega⟩)
def spBent (K : PySem.W.Frag) : Sp := fun vs H Q _ => ∃ (p t : Addr) (ns : List Int), vs = [.ref p, .ref t] ∧ Pool H p ∧ SqT K H t (ns.map V.int) ∧ 1 ≤ ns.length ∧ ns.length ≤ 10 ∧ (∀ n ∈ ns, Small n) ∧
  ∀ H' v d, But p H H' → Pool H' p → Dp K (wo p H') v d → Fit d → Q v H'
theorem ok_bent {f fT : Addr} {fd fdT : FuncData} {k : Nat} (F : Fun K "_law_bent" "_law_bent" sBent f fd) (GT : FnOk P w K mg base CX0 k fT fdT ["_law_pool_here", "_law_sides"] (spTake K)) (kT : PySem.W.keepIn K (.ref fT) = true) (bT : Binds K fdT ["_law_pool_here", "_law_sides"] []) (gT : mg "_law_take" = some (.ref fT))
    (ml : mg "len" = none) (mL : mg "list" = none) : FnOk P w K mg base CX0 (k + 1) f fd ["_law_pool_here", "_law_thing"] (spBent K) := by
  have nd := scBent.nd
  refine F.ok scBent (fun vs H Q E h => ?_) (fun cdv A outer st H vs Q E hr h => ?_)
  · obtain ⟨p, t, ns, rfl, _⟩ := h
    rfl
  · obtain ⟨p, t, ns, rfl, hP, hT, hn1, hn2, sm, q⟩ := h
    refine ⟨_, (pss_cons (ps_set (i := 2) nd rfl (Or.inl rfl) (pe_call GT hr (by rfl) gT kT bT .nil pass0 (pa_cons (pv 0) (pa_cons (pe_callB call_len_seq (by rfl) ml PySem.boot_len (pa_cons (pv 1) pa_nil)) pa_nil))))
  (pss_cut (ps_set (i := 3) nd rfl (Or.inl rfl) (pe_ix ix_list (pe_lst (pa_cons pe_non (pa_cons pe_bl (pa_cons pe_str (pa_cons pe_int (pa_cons (pe_un un_neg pe_int) (pa_cons (pe_tup (pa_cons pe_int pa_nil)) (pa_cons (pe_op op_add (pe_ix ix_tup (pv 1) (pv 2) (fun _ _ => rfl)) pe_int) (pa_cons (pe_ix ix_tup (pv 1) (pe_un un_neg pe_int) (fun _ _ => rfl)) (pa_cons (pe_ix ix_tup (pv 1) pe_int (fun _ _ => rfl)) pa_nil)))))))))) (pe_call GT hr (by rfl) gT kT bT .nil pass0 (pa_cons (pv 0) (pa_cons pe_int pa_nil))) (fun _ _ => rfl)))
  (pss_cut (ps_set (i := 4) nd rfl (Or.inl rfl) (pe_lst (pa_cons (pv 1) (pa_cons (pe_op op_catN (pe_op op_catN (pe_slice sl_tupN (pv 1) po_none (po_some (pv 2))) (pe_tup (pa_cons (pv 3) pa_nil))) (pe_slice sl_tupN (pv 1) (po_some (pe_op op_add (pv 2) pe_int)) po_none)) (pa_cons (pe_op op_catN (pv 1) (pe_tup (pa_cons (pv 3) pa_nil))) (pa_cons (pe_slice sl_tupN (pv 1) (po_some pe_int) po_none) (pa_cons (pe_callTy call_list_of (by rfl) mL (by decide +kernel) (pa_cons (pv 1) pa_nil)) (pa_cons (pe_revT (pv 1)) pa_nil))))))))
  (pss_one (ps_ret (pe_ix ix_list (pe_op op_cat (pv 4) (pe_lst (pa_cons (pv 1) (pa_cons (pe_op op_catN (pe_op op_catN (pe_slice sl_tupN (pv 1) po_none (po_some (pv 2))) (pe_tup (pa_cons (pv 3) pa_nil))) (pe_slice sl_tupN (pv 1) (po_some (pe_op op_add (pv 2) pe_int)) po_none)) pa_nil)))) (pe_call GT hr (by rfl) gT kT bT .nil pass0 (pa_cons (pv 0) (pa_cons pe_int pa_nil))) (fun _ _ => rfl))))))), ?_⟩
    have hlen : (ns.map V.int).length = ns.length := List.length_map ..
    -- at = take(pool, len(thing))
    refine ⟨.ref p, rfl, .ref t, rfl, t, _, rfl, .inr hT, p, _, rfl, hP, (by rw [hlen]; omega), (by rw [hlen]; omega), fun va o1 a1 a2 P1 => ?_⟩
    rw [hlen] at a2
    obtain ⟨j, rfl⟩ : ∃ j : Nat, va = j := ⟨va.toNat, by omega⟩
    have hj : j < ns.length := by omega
    generalize hH1 : upd H p o1 = H1 at P1
    have B1 : But p H H1 := by
      rw [← hH1]
      exact But.at
    have T1 : SqT K H1 t (ns.map V.int) := sqT_same wo_same (sqT_same B1.wo (sqT_pool hP hT))
    -- odd
    refine ⟨fun σ' H' => ∃ (o : V) (d : PyData), σ' = [some (.ref p), some (.ref t), some (.int j), some o, none] ∧ But p H H' ∧ Pool H' p ∧ Dp K (wo p H') o d ∧ Itm d, ?_, ?_⟩
    rotate_left
    · clear a1 a2
      rintro σ2 H2 ⟨o, d, rfl, B2, P2, D2, I2⟩
      have T2 : SqT K H2 t (ns.map V.int) := sqT_same wo_same (sqT_same B2.wo (sqT_pool hP hT))
      have lt : ((ns.map V.int).take j).length = j := by rw [List.length_take, hlen]; omega
      have ld : ((ns.map V.int).drop (j + 1)).length ≤ 10 := by rw [List.length_drop, hlen]; omega
      have lim : (20 : Nat) ≤ sizeLine := by decide
      have iT : ∀ e ∈ ns.map PyData.int, Itm e := itms sm
      have dT : ∀ {H'}, Same H2 H' → Pool H' p → Dp K (wo p H') (.ref t) (.tuple (ns.map .int)) := fun s hp => .tup (sqT_pool hp (sqT_same s T2)) (dpAll_ints ns)
      have dO : ∀ {H'}, Same H2 H' → Dp K (wo p H') o d := fun s => dp_same (But.of s).wo D2
      -- the thing with odd in one place, wherever it is built
      have iA : ∀ e ∈ (ns.map PyData.int).take j ++ [d] ++ (ns.map PyData.int).drop (j + 1), Itm e := fun e he => by
        rcases List.mem_append.mp he with he | he
        · rcases List.mem_append.mp he with he | he
          · exact iT e (List.mem_of_mem_take he)
          · rw [List.mem_singleton.mp he]
            exact I2
        · exact iT e (List.mem_of_mem_drop he)
      have dA : ∀ {H' a}, Same H2 H' → Pool H' p → SqT K H' a (((ns.map V.int).take j ++ [o]) ++ (ns.map V.int).drop (j + 1)) → Dp K (wo p H') (.ref a) (.tuple ((ns.map PyData.int).take j ++ [d] ++ (ns.map PyData.int).drop (j + 1))) := fun s hp h =>
        .tup (sqT_pool hp h) (dpAll_app (dpAll_app (dpAll_take j (dpAll_ints ns)) (.cons (dO s) .nil)) (dpAll_drop (j + 1) (dpAll_ints ns)))
      have fA : Fit (.tuple ((ns.map PyData.int).take j ++ [d] ++ (ns.map PyData.int).drop (j + 1))) := fit_tup (by
        rw [List.length_append, List.length_append, List.length_take, List.length_drop, List.length_map]
        show min j ns.length + 1 + (ns.length - (j + 1)) ≤ 20
        omega) iA
      refine ⟨fun σ' H' => ∃ (l : Addr) (vs : List V) (ds : List PyData), σ' = [some (.ref p), some (.ref t), some (.int j), some o, some (.ref l)] ∧ Same H2 H' ∧ Pool H' p ∧ H' l = some (.lst vs) ∧ DpAll K (wo p H') vs ds ∧ vs.length = 6 ∧ ∀ d ∈ ds, Fit d, ?_, ?_⟩
      · refine ⟨.ref t, rfl, .ref t, rfl, .int j, rfl, j, rfl, t, _, rfl, T2, fun c1 H3 S3 C3 => ?_⟩
        rw [cut_to] at C3
        refine ⟨o, rfl, (by show 1 ≤ sizeLine; decide), fun c hc => ?_⟩
        have S4 := S3.trans (same_new (o := .tup [o]) hc)
        refine ⟨c1, c, _, _, rfl, rfl, sqT_same (same_new hc) C3, sqT_new, (by rw [lt]; show j + 1 ≤ sizeLine; omega), fun c2 H5 S5 C5 => ?_⟩
        have S25 := S4.trans S5
        refine ⟨.ref t, rfl, .int j, rfl, (j : Int), 1, rfl, rfl, (j : Int) + 1, rfl, t, _, rfl, sqT_same S25 T2, fun c3 H6 S6 C6 => ?_⟩
        rw [show ((j : Int) + 1) = ((j + 1 : Nat) : Int) by omega, cut_from] at C6
        have S26 := S25.trans S6
        refine ⟨c2, c3, _, _, rfl, rfl, sqT_same S6 C5, C6, (by rw [List.length_append, lt]; show j + 1 + _ ≤ sizeLine; omega), fun cA H7 S7 C7 => ?_⟩
        have S27 := S26.trans S7
        refine ⟨.ref t, rfl, o, rfl, (by show 1 ≤ sizeLine; decide), fun e he => ?_⟩
        have S28 := S27.trans (same_new (o := .tup [o]) he)
        refine ⟨t, e, _, _, rfl, rfl, sqT_same S28 T2, sqT_new, (by rw [hlen]; show ns.length + 1 ≤ sizeLine; omega), fun cB H9 S9 C9 => ?_⟩
        have S29 := S28.trans S9
        refine ⟨.ref t, rfl, 1, rfl, t, _, rfl, sqT_same S29 T2, fun cC H10 S10 C10 => ?_⟩
        rw [show (1 : Int) = ((1 : Nat) : Int) by rfl, cut_from] at C10
        have S210 := S29.trans S10
        refine ⟨.ref t, rfl, t, _, rfl, .inr (sqT_same S210 T2), fun cD hD => ?_⟩
        have S11 : Same H10 (upd H10 cD (.lst (ns.map V.int))) := same_new hD
        have S211 := S210.trans S11
        have LD : SqL K (upd H10 cD (.lst (ns.map V.int))) cD (ns.map V.int) := sqL_new
        have nD : cD ≠ p := pool_ne (pool_same P2 S210) hD
        refine ⟨.ref t, rfl, t, _, rfl, sqT_same S211 T2, fun cE hE => ?_⟩
        have S212 := S211.trans (same_new (o := .tup (ns.map V.int).reverse) hE)
        have CE2 : SqT K (upd (upd H10 cD (.lst (ns.map V.int))) cE (.tup (ns.map V.int).reverse)) cE (ns.map V.int).reverse := sqT_new
        refine ⟨(by show 6 ≤ sizeLine; decide), fun l hl => ?_⟩
        have Sl : Same _ (upd _ l (.lst [.ref t, .ref cA, .ref cB, .ref cC, .ref cD, .ref cE])) := same_new hl
        have Send := S212.trans Sl
        have Pend := pool_same P2 Send
        refine ⟨l, _, [.tuple (ns.map .int), .tuple ((ns.map PyData.int).take j ++ [d] ++ (ns.map PyData.int).drop (j + 1)), .tuple (ns.map .int ++ [d]), .tuple ((ns.map PyData.int).drop 1), .list (ns.map .int), .tuple (ns.map PyData.int).reverse], rfl, Send, Pend, upd_same, ?_, rfl, ?_⟩
        · have S7e : Same H7 _ := (((same_new he).trans S9).trans (S10.trans S11)).trans ((same_new hE).trans Sl)
          have S9e : Same H9 _ := (S10.trans S11).trans ((same_new hE).trans Sl)
          have S10e : Same H10 _ := S11.trans ((same_new hE).trans Sl)
          have S11e := (same_new (o := .tup (ns.map V.int).reverse) hE).trans Sl
          refine .cons (dT Send Pend) (.cons (dA Send Pend (sqT_same S7e C7)) (.cons (.tup (sqT_pool Pend (sqT_same S9e C9)) (dpAll_app (dpAll_ints ns) (.cons (dO Send) .nil))) (.cons (.tup (sqT_pool Pend (sqT_same S10e C10)) (dpAll_drop 1 (dpAll_ints ns))) (.cons (.lst (sqL_wo nD (S11e.seq LD)) (dpAll_ints ns)) (.cons (.tup (sqT_pool Pend (sqT_same Sl CE2)) (dpAll_rev (dpAll_ints ns))) .nil)))))
        · intro e he
          simp only [List.mem_cons, List.not_mem_nil, or_false] at he
          have lm : (ns.map PyData.int).length = ns.length := List.length_map ..
          rcases he with rfl | rfl | rfl | rfl | rfl | rfl
          · exact fit_tup (by omega) iT
          · exact fA
          · refine fit_tup (by rw [List.length_append, lm]; show ns.length + 1 ≤ 20; omega) fun e he => ?_
            rcases List.mem_append.mp he with he | he
            · exact iT e he
            · rw [List.mem_singleton.mp he]
              exact I2
          · exact fit_tup (by rw [List.length_drop, lm]; omega) fun e he => iT e (List.mem_of_mem_drop he)
          · exact fit_lst (by omega) iT
          · exact fit_tup (by rw [List.length_reverse]; omega) fun e he => iT e (List.mem_reverse.mp he)
      · rintro σ3 H3 ⟨l, vs, ds, rfl, S3, P3, L3, D3, len3, F3⟩
        have T3 := sqT_same S3 T2
        refine ⟨.ref l, rfl, .ref t, rfl, .ref t, rfl, .int j, rfl, j, rfl, t, _, rfl, T3, fun c1 H4 S4 C4 => ?_⟩
        rw [cut_to] at C4
        refine ⟨o, rfl, (by show 1 ≤ sizeLine; decide), fun c hc => ?_⟩
        have S5 := S4.trans (same_new (o := .tup [o]) hc)
        refine ⟨c1, c, _, _, rfl, rfl, sqT_same (same_new hc) C4, sqT_new, (by rw [lt]; show j + 1 ≤ sizeLine; omega), fun c2 H6 S6 C6 => ?_⟩
        have S36 := S5.trans S6
        refine ⟨.ref t, rfl, .int j, rfl, (j : Int), 1, rfl, rfl, (j : Int) + 1, rfl, t, _, rfl, sqT_same S36 T3, fun c3 H7 S7 C7 => ?_⟩
        rw [show ((j : Int) + 1) = ((j + 1 : Nat) : Int) by omega, cut_from] at C7
        have S37 := S36.trans S7
        refine ⟨c2, c3, _, _, rfl, rfl, sqT_same S7 C6, C7, (by rw [List.length_append, lt]; show j + 1 + _ ≤ sizeLine; omega), fun cA H8 S8 C8 => ?_⟩
        have S38 := S37.trans S8
        refine ⟨(by show 2 ≤ sizeLine; decide), fun l2 hl2 => ?_⟩
        have Sl : Same H8 (upd H8 l2 (.lst [.ref t, .ref cA])) := same_new hl2
        have S39 := S38.trans Sl
        refine ⟨l, l2, _, _, rfl, rfl, S39 _ _ L3, upd_same, (by rw [len3]; show 6 + 2 ≤ sizeLine; decide), fun l4 hl4 => ?_⟩
        have Sm : Same _ (upd (upd H8 l2 (.lst [.ref t, .ref cA])) l4 (.lst (vs ++ [.ref t, .ref cA]))) := same_new hl4
        have S310 := S39.trans Sm
        have S210 := S3.trans S310
        have P10 := pool_same P3 S310
        have nl : l4 ≠ p := pool_ne (pool_same P3 S39) hl4
        have L4 : SqL K (upd (upd H8 l2 (.lst [.ref t, .ref cA])) l4 (.lst (vs ++ [.ref t, .ref cA]))) l4 (vs ++ [.ref t, .ref cA]) := sqL_new
        refine ⟨.ref p, rfl, p, 8, rfl, P10, (by decide), (by decide), fun vb o2 b1 b2 P11 => ?_⟩
        obtain ⟨m, rfl⟩ : ∃ m : Nat, vb = m := ⟨vb.toNat, by omega⟩
        have D11 : DpAll K (wo p (upd (upd H8 l2 (.lst [.ref t, .ref cA])) l4 (.lst (vs ++ [.ref t, .ref cA])))) (vs ++ [.ref t, .ref cA]) (ds ++ [.tuple (ns.map .int), .tuple ((ns.map PyData.int).take j ++ [d] ++ (ns.map PyData.int).drop (j + 1))]) :=
          dpAll_app (dpAll_same (But.of S310).wo D3) (.cons (dT S210 P10) (.cons (dA S210 P10 (sqT_same (Sl.trans Sm) C8)) .nil))
        have hm : m < (vs ++ [V.ref t, .ref cA]).length := by
          rw [List.length_append, len3]
          show m < 8
          omega
        obtain ⟨e, he⟩ : ∃ e, (vs ++ [V.ref t, .ref cA])[m]? = some e := ⟨_, List.getElem?_eq_getElem hm⟩
        obtain ⟨de, hd1, hd2⟩ := dpAll_get D11 he
        have B11 : But p H (upd _ p o2) := B2.trans ((But.of S210).trans But.at)
        refine ⟨l4, _, (m : Int), e, rfl, rfl, sqL_wo_at But.at nl L4, atI_nat (j := m) he, q _ e de B11 P11 (dp_same (But.at).wo hd2) ?_⟩
        rcases List.mem_append.mp (List.mem_of_getElem? hd1) with hz | hz
        · exact F3 de hz
        · simp only [List.mem_cons, List.not_mem_nil, or_false] at hz
          rcases hz with rfl | rfl
          · exact fit_tup (by rw [List.length_map]; omega) iT
          · exact fA
    refine ⟨1, rfl, (by show 1 ≤ sizeLine; decide), fun c hc => ?_⟩
    have nc := pool_ne P1 hc
    have S2 : Same H1 (upd H1 c (.tup [V.int 1])) := same_new hc
    have C2 : SqT K (upd H1 c (.tup [V.int 1])) c [V.int 1] := sqT_new
    generalize upd H1 c (.tup [V.int 1]) = H2 at S2 C2
    have P2 := pool_same P1 S2
    have T2 := sqT_same S2 T1
    have gj : (ns.map V.int)[j]? = some (.int ns[j]) := by
      rw [List.getElem?_map, List.getElem?_eq_getElem hj]
      rfl
    have g0 : (ns.map V.int)[0]? = some (.int (ns[0]'(by omega))) := by
      rw [List.getElem?_map, List.getElem?_eq_getElem (by omega)]
      rfl
    have ne : ns ≠ [] := fun z => by
      rw [z] at hn1
      simp at hn1
    have gl : atI (ns.map V.int) (-1) = some (.int (ns.getLast ne)) := by
      have hz : (ns.map V.int) = (ns.dropLast.map V.int) ++ [.int (ns.getLast ne)] := by
        rw [← List.map_singleton, ← List.map_append, List.dropLast_concat_getLast]
      rw [hz]
      exact atI_last _ _
    refine ⟨.ref t, rfl, .int (j : Int), rfl, t, _, (j : Int), .int ns[j], rfl, rfl, T2, atI_nat (j := j) gj, ns[j], 1, rfl, rfl, ?_⟩
    refine ⟨.ref t, rfl, 1, rfl, t, _, (-1 : Int), _, rfl, rfl, T2, gl, ?_⟩
    refine ⟨.ref t, rfl, t, _, (0 : Int), _, rfl, rfl, T2, atI_nat (j := 0) g0, (by show 9 ≤ sizeLine; decide), fun l hl => ?_⟩
    have S3 : Same H2 (upd H2 l (.lst [.non, .bl true, .str "1", .int 0, .int (-1), .ref c, .int (ns[j] + 1), .int (ns.getLast ne), .int (ns[0]'(by omega))])) := same_new hl
    have L3 : SqL K (upd H2 l (.lst [.non, .bl true, .str "1", .int 0, .int (-1), .ref c, .int (ns[j] + 1), .int (ns.getLast ne), .int (ns[0]'(by omega))])) l [.non, .bl true, .str "1", .int 0, .int (-1), .ref c, .int (ns[j] + 1), .int (ns.getLast ne), .int (ns[0]'(by omega))] := sqL_new
    have Q3 := pool_same P2 S3
    refine ⟨.ref p, rfl, p, 9, rfl, Q3, (by decide), (by decide), fun vb o2 b1 b2 P4 => ?_⟩
    have B4 : But p H (upd _ p o2) := B1.trans ((But.of S2).trans ((But.of S3).trans But.at))
    obtain ⟨m, rfl⟩ : ∃ m : Nat, vb = m := ⟨vb.toNat, by omega⟩
    have nl : l ≠ p := pool_ne P2 hl
    have L4 := sqL_wo nl L3
    have D3 : DpAll K (wo p (upd H2 l (.lst [.non, .bl true, .str "1", .int 0, .int (-1), .ref c, .int (ns[j] + 1), .int (ns.getLast ne), .int (ns[0]'(by omega))]))) [.non, .bl true, .str "1", .int 0, .int (-1), .ref c, .int (ns[j] + 1), .int (ns.getLast ne), .int (ns[0]'(by omega))]
        [.none, .bool true, .str "1", .int 0, .int (-1), .tuple [.int 1], .int (ns[j] + 1), .int (ns.getLast ne), .int (ns[0]'(by omega))] :=
      .cons .non (.cons (.bl _) (.cons (.str _) (.cons (.int _) (.cons (.int _) (.cons (.tup (sqT_pool Q3 (sqT_same S3 C2)) (.cons (.int _) .nil)) (.cons (.int _) (.cons (.int _) (.cons (.int _) .nil))))))))
    have I3 : ∀ d ∈ [PyData.none, .bool true, .str "1", .int 0, .int (-1), .tuple [.int 1], .int (ns[j] + 1), .int (ns.getLast ne), .int (ns[0]'(by omega))], Itm d := by
      have one : ∀ n ∈ ns, n.natAbs.log2 < 1920 ∧ (n + 1).natAbs.log2 < 1920 := fun n hn => by
        obtain ⟨x, y⟩ := sm n hn
        exact ⟨small_log ⟨by omega, by omega⟩, small_log ⟨by omega, by omega⟩⟩
      intro d hd
      simp only [List.mem_cons, List.not_mem_nil, or_false] at hd
      rcases hd with rfl | rfl | rfl | rfl | rfl | rfl | rfl | rfl | rfl
      · exact ⟨by decide +kernel, by decide +kernel, by decide +kernel⟩
      · exact ⟨by decide +kernel, by decide +kernel, by decide +kernel⟩
      · exact ⟨by decide +kernel, by decide +kernel, by decide +kernel⟩
      · exact ⟨by decide +kernel, by decide +kernel, by decide +kernel⟩
      · exact ⟨by decide +kernel, by decide +kernel, by decide +kernel⟩
      · exact ⟨by decide +kernel, by decide +kernel, by decide +kernel⟩
      · exact itm_int (one _ (List.getElem_mem hj)).2
      · exact itm_int (one _ (List.getLast_mem ne)).1
      · exact itm_int (one _ (List.getElem_mem _)).1
    have hm : m < 9 := by omega
    obtain ⟨o, ho⟩ : ∃ o, [V.non, .bl true, .str "1", .int 0, .int (-1), .ref c, .int (ns[j] + 1), .int (ns.getLast ne), .int (ns[0]'(by omega))][m]? = some o := ⟨_, List.getElem?_eq_getElem hm⟩
    obtain ⟨d, hd1, hd2⟩ := dpAll_get D3 ho
    refine ⟨l, _, (m : Int), o, rfl, rfl, sqL_wo_at But.at nl L3, atI_nat (j := m) ho, o, d, rfl, B4, P4, dp_same (But.at).wo hd2, I3 d (List.mem_of_getElem? hd1)⟩
/-! ### the law -/
def turns (m : Int) : Int := if (if 6 < m then 6 else m) > 1 then (if 6 < m then 6 else m) else 1
theorem turns_in (m : Int) : 1 ≤ turns m ∧ turns m ≤ 6 := by
  unfold turns
  split <;> split <;> omega
theorem scLaw : FnScope ["_law_script", "_law_k", "_law_pool_here", "_law_turn", "_law_bad", "_law_far", "_law_x", "_law_y", "_law_thing", "_law_box", "_law_one", "_law_seen"] ["_law_script"] (defScope sLaw) := ⟨rfl, rfl, rfl, by decide +kernel, rfl, by decide +kernel, by decide +kernel⟩
def spLaw (K : PySem.W.Frag) : Sp := fun vs H Q _ => ∃ (a : Addr) (ns : List Int), vs = [.ref a] ∧ SqL K H a (ns.map V.int) ∧ ns.length ≤ 63 ∧ ∀ H', Q (.bl true) H'
theorem new_lst {H : Hp} {l : Addr} {xs : List V} (_ : H l = none) : SqL K (upd H l (.lst xs)) l xs := sqL_new
theorem bads {H : Hp} {c1 c2 c3 c4 c5 c6 c7 c8 c9 : Addr} (T1 : H c1 = some (.dK [])) (T2 : SqL K H c2 []) (T3 : SqT K H c3 []) (T4 : SqT K H c4 [.int 0]) (T5 : SqL K H c5 [.int 0, .int 0]) (T6 : SqT K H c6 [.int 0, .int 0, .int 0]) (T7 : SqT K H c7 [.int 0, .int 0]) (T8 : SqT K H c8 [.int 1, .int 1]) (T9 : SqT K H c9 [.ref c7, .ref c8]) :
    ∀ (i : Nat) (z : V), [V.non, .int 5, .str "0 0 1 1", .ref c1, .ref c2, .ref c3, .ref c4, .ref c5, .ref c6, .ref c9][i]? = some z → ∃ d, Th K H z d ∧ (∀ ds, d = .tuple ds → ds.length ≤ 1000) ∧ areWhole 2 d = false ∧ isBox d = false := fun i z hz => by
        have two : ∀ {x y : Int}, DpAll K H [.int x, .int y] [.int x, .int y] := fun {x y} => .cons (.int x) (.cons (.int y) .nil)
        match i, hz with
        | 0, hz => cases hz; exact ⟨.none, .inl .non, (fun _ e => by cases e), rfl, rfl⟩
        | 1, hz => cases hz; exact ⟨.int 5, .inl (.int _), (fun _ e => by cases e), rfl, rfl⟩
        | 2, hz => cases hz; exact ⟨.str _, .inl (.str _), (fun _ e => by cases e), rfl, rfl⟩
        | 3, hz => cases hz; exact ⟨.dict [], .inr ⟨c1, rfl, T1, rfl⟩, (fun _ e => by cases e), rfl, rfl⟩
        | 4, hz => cases hz; exact ⟨.list [], .inl (.lst T2 .nil), (fun _ e => by cases e), rfl, rfl⟩
        | 5, hz => cases hz; exact ⟨.tuple [], .inl (.tup T3 .nil), (fun _ e => by cases e; decide), rfl, rfl⟩
        | 6, hz => cases hz; exact ⟨.tuple [.int 0], .inl (.tup T4 (.cons (.int 0) .nil)), (fun _ e => by cases e; decide), rfl, rfl⟩
        | 7, hz => cases hz; exact ⟨.list [.int 0, .int 0], .inl (.lst T5 two), (fun _ e => by cases e), rfl, rfl⟩
        | 8, hz => cases hz; exact ⟨.tuple [.int 0, .int 0, .int 0], .inl (.tup T6 (.cons (.int 0) two)), (fun _ e => by cases e; decide), rfl, rfl⟩
        | 9, hz => cases hz; exact ⟨.tuple [.tuple [.int 0, .int 0], .tuple [.int 1, .int 1]], .inl (.tup T9 (.cons (.tup T7 two) (.cons (.tup T8 two) .nil))), (fun _ e => by cases e; decide), rfl, rfl⟩
        | i + 10, hz => simp at hz
theorem ok_law {f fP fT fB fS fX fJ : Addr} {fd dP dT dB dS dX dJ : FuncData} {k : Nat} (F : Fun K "law" "law" sLaw f fd)
    (GP : FnOk P w K mg base CX0 k fP dP ["_law_script", "_law_k"] (spPool K)) (kP : PySem.W.keepIn K (.ref fP) = true) (bP : Binds K dP ["_law_script", "_law_k"] []) (gP : mg "_law_pool" = some (.ref fP))
    (GT : FnOk P w K mg base CX0 k fT dT ["_law_pool_here", "_law_sides"] (spTake K)) (kT : PySem.W.keepIn K (.ref fT) = true) (bT : Binds K dT ["_law_pool_here", "_law_sides"] []) (gT : mg "_law_take" = some (.ref fT))
    (GB : FnOk P w K mg base CX0 k fB dB ["_law_pool_here", "_law_thing"] (spBent K)) (kB : PySem.W.keepIn K (.ref fB) = true) (bB : Binds K dB ["_law_pool_here", "_law_thing"] []) (gB : mg "_law_bent" = some (.ref fB))
    (GS : FnOk P w K mg base CX0 k fS dS ["thing"] (spSq K)) (kS : PySem.W.keepIn K (.ref fS) = true) (bS : Binds K dS ["thing"] []) (gS : mg "is_square" = some (.ref fS))
    (GX : FnOk P w K mg base CX0 k fX dX ["thing"] (spBox K)) (kX : PySem.W.keepIn K (.ref fX) = true) (bX : Binds K dX ["thing"] []) (gX : mg "is_box" = some (.ref fX))
    (GJ : FnOk P w K mg base CX0 k fJ dJ ["_law_thing"] (spJud K)) (kJ : PySem.W.keepIn K (.ref fJ) = true) (bJ : Binds K dJ ["_law_thing"] []) (gJ : mg "_law_judged" = some (.ref fJ))
    (mr : mg "range" = none) (mx : mg "max" = none) (mn : mg "min" = none) (ml : mg "len" = none) (mp : mg "repr" = none) : FnG P w K mg base CX0 (k + 1) f fd ["_law_script"] (spLaw K) := by
  have nd := scLaw.nd
  refine okG F scLaw (fun {vs H Q E} h => ?_) (fun cdv A outer st H vs Q E gA hr h => ?_)
  · obtain ⟨a, ns, rfl, _⟩ := h
    rfl
  · obtain ⟨a, ns, rfl, hS, hl, q⟩ := h
    have gd : (A.deeper (envOfC "law" (defScope sLaw) st.heap.objs.size f cdv)).guards = some [] := gA
    refine ⟨_, (pss_cons (ps_for PassesOwn.never rfl (pi_range1 (by rfl) mr (pa_cons (pe_callB (call_max2 rfl) (by rfl) mx (by decide +kernel) (pa_cons pe_int (pa_cons (pe_callB (call_min2 rfl) (by rfl) mn (by decide +kernel) (pa_cons (pe_callB call_len_seq (by rfl) ml PySem.boot_len (pa_cons (pv 0) pa_nil)) (pa_cons pe_int pa_nil))) pa_nil))) pa_nil)) (pg_name (i := 1) nd rfl (Or.inl rfl))
  (pss_cons (ps_set (i := 2) nd rfl (Or.inl rfl) (pe_call GP hr (by rfl) gP kP bP .nil pass0 (pa_cons (pv 0) (pa_cons (pv 1) pa_nil))))
  (pss_cut (ps_for PassesOwn.never rfl (pi_range1 (by rfl) mr (pa_cons pe_int pa_nil)) (pg_name (i := 3) nd rfl (Or.inl rfl))
  (pss_cut (ps_set (i := 5) nd rfl (Or.inl rfl) (pe_ix ix_list (pe_lst (pa_cons pe_int (pa_cons (pe_op op_pow pe_int pe_int) pa_nil))) (pe_call GT hr (by rfl) gT kT bT .nil pass0 (pa_cons (pv 2) (pa_cons pe_int pa_nil))) (fun _ _ => rfl)))
  (pss_cut (ps_par (i := 6) (j := 7) (by rfl) nd rfl rfl (by decide) rfl rfl (pa_cons (pe_op op_sub (pe_call GT hr (by rfl) gT kT bT .nil pass0 (pa_cons (pv 2) (pa_cons (pv 5) pa_nil))) (pe_op op_fdivW (pv 5) pe_int)) (pa_cons (pe_op op_sub (pe_call GT hr (by rfl) gT kT bT .nil pass0 (pa_cons (pv 2) (pa_cons (pv 5) pa_nil))) (pe_op op_fdivW (pv 5) pe_int)) pa_nil)) (by rfl))
  (pss_cut (ps_set (i := 7) nd rfl (Or.inl rfl) (pe_op op_mul (pv 7) (pe_ix ix_list (pe_lst (pa_cons pe_int (pa_cons (pe_op op_pow pe_int pe_int) pa_nil))) (pe_call GT hr (by rfl) gT kT bT .nil pass0 (pa_cons (pv 2) (pa_cons pe_int pa_nil))) (fun _ _ => rfl))))
  (pss_cut (ps_set (i := 8) nd rfl (Or.inl rfl) (pe_call GB hr (by rfl) gB kB bB .nil pass0 (pa_cons (pv 2) (pa_cons (pe_tup (pa_cons (pv 6) (pa_cons (pv 7) pa_nil))) pa_nil))))
  (pss_cut (ps_set (i := 9) nd rfl (Or.inl rfl) (pe_call GB hr (by rfl) gB kB bB .nil pass0 (pa_cons (pv 2) (pa_cons (pe_tup (pa_cons (pv 6) (pa_cons (pv 7) (pa_cons (pe_op op_add (pe_op op_add (pv 6) pe_int) (pe_call GT hr (by rfl) gT kT bT .nil pass0 (pa_cons (pv 2) (pa_cons (pv 5) pa_nil)))) (pa_cons (pe_op op_add (pe_op op_add (pv 7) pe_int) (pe_call GT hr (by rfl) gT kT bT .nil pass0 (pa_cons (pv 2) (pa_cons (pv 5) pa_nil)))) pa_nil))))) pa_nil))))
  (pss_one (ps_for PassesOwn.never rfl (pi_list (pe_lst (pa_cons (pv 8) (pa_cons (pv 9) pa_nil)))) (pg_name (i := 10) nd rfl (Or.inl rfl))
  (pss_cons (ps_set (i := 11) nd rfl (Or.inl rfl) (pe_callB (call_repr gd hr.units) (by rfl) mp (by decide +kernel) (pa_cons (pv 10) pa_nil)))
  (pss_one (ps_if (PW.pt (pw_or (pt_cmpR op_ne (pe_callB (call_repr gd hr.units) (by rfl) mp (by decide +kernel) (pa_cons (pe_lst (pa_cons (pe_call GS hr (by rfl) gS kS bS .nil pass0 (pa_cons (pv 10) pa_nil)) (pa_cons (pe_call GX hr (by rfl) gX kX bX .nil pass0 (pa_cons (pv 10) pa_nil)) pa_nil))) pa_nil)) (pe_callB (call_repr gd hr.units) (by rfl) mp (by decide +kernel) (pa_cons (pe_call GJ hr (by rfl) gJ kJ bJ .nil pass0 (pa_cons (pv 10) pa_nil)) pa_nil)) (nomark _)) (pw_or1 (pt_cmpR op_ne (pe_callB (call_repr gd hr.units) (by rfl) mp (by decide +kernel) (pa_cons (pv 10) pa_nil)) (pv 11) (nomark _)))))
  (pss_one (ps_ret pe_bl))
  pss_nil)))))))))))
  (pss_one (ps_for PassesOwn.never rfl (pi_list (pe_lst (pa_cons pe_non (pa_cons pe_int (pa_cons pe_str (pa_cons pe_dnewK (pa_cons (pe_lst pa_nil) (pa_cons (pe_tup pa_nil) (pa_cons (pe_tup (pa_cons pe_int pa_nil)) (pa_cons (pe_lst (pa_cons pe_int (pa_cons pe_int pa_nil))) (pa_cons (pe_tup (pa_cons pe_int (pa_cons pe_int (pa_cons pe_int pa_nil)))) (pa_cons (pe_tup (pa_cons (pe_tup (pa_cons pe_int (pa_cons pe_int pa_nil))) (pa_cons (pe_tup (pa_cons pe_int (pa_cons pe_int pa_nil))) pa_nil))) pa_nil)))))))))))) (pg_name (i := 4) nd rfl (Or.inl rfl))
  (pss_one (ps_if (PW.pt (pw_or (pt_cmpR op_isnot_bl (pe_call GS hr (by rfl) gS kS bS .nil pass0 (pa_cons (pv 4) pa_nil)) pe_bl (nomark _)) (pw_or1 (pt_cmpR op_isnot_bl (pe_call GX hr (by rfl) gX kX bX .nil pass0 (pa_cons (pv 4) pa_nil)) pe_bl (nomark _)))))
  (pss_one (ps_ret pe_bl))
  pss_nil)))))))
  (pss_one (ps_ret pe_bl))), ?_⟩
    have q0 := hl
    refine ⟨.ref a, rfl, a, _, rfl, .inl hS, _, _, rfl, _, _, rfl, turns ((ns.map V.int).length : Int), rfl, ?_, ?_, for_range (fun i σ H' => Same H H' ∧ ∃ (y1 y2 y3 y4 y5 y6 y7 y8 y9 y10 y11 : Option V), σ = [some (.ref a), y1, y2, y3, y4, y5, y6, y7, y8, y9, y10, y11]) ⟨Same.refl H, none, none, none, none, none, none, none, none, none, none, none, rfl⟩ (fun i σ H1 hi hp => ?_) (fun σ H' _ => q H')⟩
    · have := turns_in ((ns.map V.int).length : Int)
      omega
    · have := turns_in ((ns.map V.int).length : Int)
      omega
    have hi6 : i < 6 := by
      have := turns_in ((ns.map V.int).length : Int)
      omega
    obtain ⟨S1, y1, y2, y3, y4, y5, y6, y7, y8, y9, y10, y11, rfl⟩ := hp
    refine ⟨.ref a, rfl, .int (0 + (i : Int)), rfl, a, ns, 0 + (i : Int), rfl, S1.seq hS, by omega, by omega, by omega, fun p o hp P2 => ?_⟩
    have B2 : But p H1 (upd H1 p o) := But.at
    have free : H p = none := S1.free hp
    generalize upd H1 p o = H2 at P2 B2
    have stay : ∀ {H'}, But p H2 H' → Same H H' := fun b c u e => b c u (ne_of_none e free) (B2 c u (ne_of_none e free) (S1 c u e))
    refine ⟨fun σ' H' => Same H H' ∧ ∃ (y1 y2 y3 y4 y5 y6 y7 y8 y9 y10 y11 : Option V), σ' = [some (.ref a), y1, y2, y3, y4, y5, y6, y7, y8, y9, y10, y11], ?_, ?_⟩
    · refine ⟨16, rfl, by decide, by decide, for_range (fun i σ H' => But p H2 H' ∧ Pool H' p ∧ ∃ (y1 y3 y4 y5 y6 y7 y8 y9 y10 y11 : Option V), σ = [some (.ref a), y1, some (.ref p), y3, y4, y5, y6, y7, y8, y9, y10, y11]) ⟨But.refl, P2, _, _, _, _, _, _, _, _, _, _, rfl⟩ (fun i2 σ H3 hi2 hp => ?_) (fun σ H' hp => ?_)⟩
      · clear y1 y2 y3 y4 y5 y6 y7 y8 y9 y10 y11
        obtain ⟨B3, P3, y1, y3, y4, y5, y6, y7, y8, y9, y10, y11, rfl⟩ := hp
        -- far
        refine ⟨fun σ' H' => But p H2 H' ∧ Pool H' p ∧ ∃ (fr : Int) (y1 y3 y4 y6 y7 y8 y9 y10 y11 : Option V), 1 ≤ fr ∧ fr ≤ 1000000000000000000 ∧ σ' = [some (.ref a), y1, some (.ref p), y3, y4, some (.int fr), y6, y7, y8, y9, y10, y11], ?_, ?_⟩
        · refine ⟨10, 18, rfl, rfl, ⟨by decide, by decide, by decide⟩, (by show 2 ≤ sizeLine; decide), fun l hl => ?_⟩
          have Sl : Same H3 (upd H3 l (.lst [.int 5, .int (10 ^ (18 : Int).toNat)])) := same_new hl
          have Ll : SqL K (upd H3 l (.lst [.int 5, .int (10 ^ (18 : Int).toNat)])) l [.int 5, .int (10 ^ (18 : Int).toNat)] := sqL_new
          refine ⟨.ref p, rfl, p, 2, rfl, pool_same P3 Sl, (by decide), (by decide), fun v o2 b1 b2 P4 => ?_⟩
          obtain ⟨m, rfl⟩ : ∃ m : Nat, v = m := ⟨v.toNat, by omega⟩
          have B4 : But p H2 (upd _ p o2) := B3.trans ((But.of Sl).trans But.at)
          have L4 := sqL_wo_at (But.at (p := p) (o := o2)) (pool_ne P3 hl) Ll
          have e18 : (10 : Int) ^ (18 : Int).toNat = 1000000000000000000 := by decide
          match m, b2 with
          | 0, _ => exact ⟨l, _, ((0 : Nat) : Int), .int 5, rfl, rfl, L4, atI_nat (j := 0) rfl, B4, P4, 5, _, _, _, _, _, _, _, _, _, by decide, by decide, rfl⟩
          | 1, _ => exact ⟨l, _, ((1 : Nat) : Int), .int (10 ^ (18 : Int).toNat), rfl, rfl, L4, atI_nat (j := 1) rfl, B4, P4, 10 ^ (18 : Int).toNat, _, _, _, _, _, _, _, _, _, by rw [e18]; decide, by rw [e18]; decide, rfl⟩
          | m + 2, b2 => omega
        clear y1 y3 y4 y5 y6 y7 y8 y9 y10 y11 P3 B3
        rintro σ3 H4 ⟨B4, P4, fr, y1, y3, y4, y6, y7, y8, y9, y10, y11, f1, f2, rfl⟩
        have d2 : CDivW fr 2 := wide_div (by decide) (b := 2) (by decide) (by decide) (by decide)
        -- x, y
        refine ⟨fun σ' H' => But p H2 H' ∧ Pool H' p ∧ ∃ (x y : Int) (y1 y3 y4 y8 y9 y10 y11 : Option V), -1000000000000000000 ≤ x ∧ x ≤ 1000000000000000000 ∧ -1000000000000000000 ≤ y ∧ y ≤ 1000000000000000000 ∧ σ' = [some (.ref a), y1, some (.ref p), y3, y4, some (.int fr), some (.int x), some (.int y), y8, y9, y10, y11], ?_, ?_⟩
        · refine ⟨.ref p, rfl, .int fr, rfl, p, fr, rfl, P4, by omega, by omega, fun v o5 b1 b2 P5 => ?_⟩
          have B5 := B4.trans (But.at (o := o5))
          refine ⟨.int fr, rfl, fr, 2, rfl, rfl, d2, v, fr / 2, rfl, rfl, .ref p, rfl, .int fr, rfl, p, fr, rfl, P5, by omega, by omega, fun u o6 c1 c2 P6 => ?_⟩
          have B6 := B5.trans (But.at (o := o6))
          exact ⟨.int fr, rfl, fr, 2, rfl, rfl, d2, u, fr / 2, rfl, rfl, _, _, rfl, B6, P6, v - fr / 2, u - fr / 2, _, _, _, _, _, _, _, by omega, by omega, by omega, by omega, rfl⟩
        clear y1 y3 y4 y6 y7 y8 y9 y10 y11 P4 B4
        rintro σ4 H5 ⟨B5, P5, x, y, y1, y3, y4, y8, y9, y10, y11, x1, x2, z1, z2, rfl⟩
        -- y
        refine ⟨fun σ' H' => But p H2 H' ∧ Pool H' p ∧ ∃ (y : Int) (y1 y3 y4 y8 y9 y10 y11 : Option V), -1000000000000000000000000000000 ≤ y ∧ y ≤ 1000000000000000000000000000000 ∧ σ' = [some (.ref a), y1, some (.ref p), y3, y4, some (.int fr), some (.int x), some (.int y), y8, y9, y10, y11], ?_, ?_⟩
        · refine ⟨.int y, rfl, 10, 12, rfl, rfl, ⟨by decide, by decide, by decide⟩, (by show 2 ≤ sizeLine; decide), fun l hl => ?_⟩
          have Sl : Same H5 (upd H5 l (.lst [.int 1, .int (10 ^ (12 : Int).toNat)])) := same_new hl
          have Ll : SqL K (upd H5 l (.lst [.int 1, .int (10 ^ (12 : Int).toNat)])) l [.int 1, .int (10 ^ (12 : Int).toNat)] := sqL_new
          refine ⟨.ref p, rfl, p, 2, rfl, pool_same P5 Sl, (by decide), (by decide), fun v o2 b1 b2 P6 => ?_⟩
          obtain ⟨m, rfl⟩ : ∃ m : Nat, v = m := ⟨v.toNat, by omega⟩
          have B6 : But p H2 (upd _ p o2) := B5.trans ((But.of Sl).trans But.at)
          have L6 := sqL_wo_at (But.at (p := p) (o := o2)) (pool_ne P5 hl) Ll
          have e12 : (10 : Int) ^ (12 : Int).toNat = 1000000000000 := by decide
          match m, b2 with
          | 0, _ => exact ⟨l, _, ((0 : Nat) : Int), .int 1, rfl, rfl, L6, atI_nat (j := 0) rfl, y, 1, rfl, rfl, .inr ⟨by decide, by decide⟩, B6, P6, y * 1, _, _, _, _, _, _, _, by omega, by omega, rfl⟩
          | 1, _ => exact ⟨l, _, ((1 : Nat) : Int), .int (10 ^ (12 : Int).toNat), rfl, rfl, L6, atI_nat (j := 1) rfl, y, 10 ^ (12 : Int).toNat, rfl, rfl, .inr ⟨by decide, by decide⟩, B6, P6, y * 10 ^ (12 : Int).toNat, _, _, _, _, _, _, _, by rw [e12]; omega, by rw [e12]; omega, rfl⟩
          | m + 2, b2 => omega
        clear y1 y3 y4 y8 y9 y10 y11 P5 B5 z1 z2 y
        rintro σ5 H6 ⟨B6, P6, y, y1, y3, y4, y8, y9, y10, y11, z1, z2, rfl⟩
        -- thing
        refine ⟨fun σ' H' => But p H2 H' ∧ Pool H' p ∧ ∃ (v8 : V) (d8 : PyData) (y1 y3 y4 y9 y10 y11 : Option V), Dp K (wo p H') v8 d8 ∧ Fit d8 ∧ σ' = [some (.ref a), y1, some (.ref p), y3, y4, some (.int fr), some (.int x), some (.int y), some v8, y9, y10, y11], ?_, ?_⟩
        · refine ⟨.ref p, rfl, .int x, rfl, .int y, rfl, (by show 2 ≤ sizeLine; decide), fun t ht => ?_⟩
          have St : Same H6 (upd H6 t (.tup [.int x, .int y])) := same_new ht
          refine ⟨p, t, [x, y], rfl, pool_same P6 St, sqT_new, (by show 1 ≤ 2; decide), (by show 2 ≤ 10; decide), fun n hn => ?_, fun H' v d B P D Fd => ?_⟩
          · simp only [List.mem_cons, List.not_mem_nil, or_false] at hn
            rcases hn with rfl | rfl <;> exact ⟨by omega, by omega⟩
          · exact ⟨B6.trans ((But.of St).trans B), P, v, d, _, _, _, _, _, _, D, Fd, rfl⟩
        clear y1 y3 y4 y8 y9 y10 y11 P6 B6
        rintro σ6 H7 ⟨B7, P7, v8, d8, y1, y3, y4, y9, y10, y11, D8, F8, rfl⟩
        -- box
        refine ⟨fun σ' H' => But p H2 H' ∧ Pool H' p ∧ ∃ (v9 : V) (d9 : PyData) (y1 y3 y4 y10 y11 : Option V), Dp K (wo p H') v8 d8 ∧ Dp K (wo p H') v9 d9 ∧ Fit d9 ∧ σ' = [some (.ref a), y1, some (.ref p), y3, y4, some (.int fr), some (.int x), some (.int y), some v8, some v9, y10, y11], ?_, ?_⟩
        · refine ⟨.ref p, rfl, .int x, rfl, .int y, rfl, .int x, rfl, x, 1, rfl, rfl, .ref p, rfl, .int fr, rfl, p, fr, rfl, P7, by omega, by omega, fun v o5 b1 b2 P8 => ?_⟩
          have B8 := B7.trans (But.at (o := o5))
          refine ⟨x + 1, v, rfl, rfl, .int y, rfl, y, 1, rfl, rfl, .ref p, rfl, .int fr, rfl, p, fr, rfl, P8, by omega, by omega, fun u o6 c1 c2 P9 => ?_⟩
          have B9 := B8.trans (But.at (o := o6))
          refine ⟨y + 1, u, rfl, rfl, (by show 4 ≤ sizeLine; decide), fun t ht => ?_⟩
          have St : Same _ (upd _ t (.tup [.int x, .int y, .int (x + 1 + v), .int (y + 1 + u)])) := same_new ht
          refine ⟨p, t, [x, y, x + 1 + v, y + 1 + u], rfl, pool_same P9 St, sqT_new, (by show 1 ≤ 4; decide), (by show 4 ≤ 10; decide), fun n hn => ?_, fun H' v d B P D Fd => ?_⟩
          · simp only [List.mem_cons, List.not_mem_nil, or_false] at hn
            rcases hn with rfl | rfl | rfl | rfl <;> exact ⟨by omega, by omega⟩
          · have B10 : But p H7 H' := (But.at (o := o5)).trans ((But.at (o := o6)).trans ((But.of St).trans B))
            exact ⟨B7.trans B10, P, v, d, _, _, _, _, _, dp_same B10.wo D8, D, Fd, rfl⟩
        clear y1 y3 y4 y9 y10 y11 P7 B7 D8
        rintro σ7 H8 ⟨B8, P8, v9, d9, y1, y3, y4, y10, y11, D8, D9, F9, rfl⟩
        refine ⟨v8, rfl, v9, rfl, (by show 2 ≤ sizeLine; decide), fun l hl => ?_⟩
        have Sl : Same H8 (upd H8 l (.lst [v8, v9])) := same_new hl
        have Ll : SqL K (upd H8 l (.lst [v8, v9])) l [v8, v9] := sqL_new
        have both : ∀ (i : Nat) (x : V), [v8, v9][i]? = some x → ∃ d, Dp K (upd H8 l (.lst [v8, v9])) x d ∧ Fit d := fun i x hx => by
          match i, hx with
          | 0, hx =>
            cases hx
            exact ⟨d8, dp_same Sl (dp_same wo_same D8), F8⟩
          | 1, hx =>
            cases hx
            exact ⟨d9, dp_same Sl (dp_same wo_same D9), F9⟩
          | i + 2, hx => simp at hx
        have B9 : But p H2 (upd H8 l (.lst [v8, v9])) := B8.trans (But.of Sl)
        have P9 := pool_same P8 Sl
        generalize upd H8 l (.lst [v8, v9]) = H9 at Ll both B9 P9
        refine ⟨l, rfl, ⟨_, Ll⟩, for_list (xs := [v8, v9]) (fun i σ H' => Same H9 H' ∧ ∃ y10 y11 : Option V, σ = [some (.ref a), y1, some (.ref p), y3, y4, some (.int fr), some (.int x), some (.int y), some v8, some v9, y10, y11]) ⟨Same.refl _, _, _, rfl⟩ (fun i σ H' _ hp => hp.1.seq Ll) (fun i z σ H' hz hp => ?_) (fun σ H' hp => ?_)⟩
        · obtain ⟨d, hd, Fd⟩ := both i z hz
          obtain ⟨SA, y10, y11, rfl⟩ := hp
          have DA := dp_same SA hd
          have f1 := Fd.nice
          have f2 : d.depth ≤ 60 := by have := Fd.deep; omega
          have f3 : wide d ≤ 1000000 := by have := Fd.wide; omega
          refine ⟨z, rfl, z, d, rfl, DA, f1, f2, f3, ?_⟩
          refine ⟨z, rfl, z, d, rfl, .inl DA, Fd.many, fun HB SB => ?_⟩
          have DB := dp_same SB DA
          refine ⟨z, rfl, z, d, rfl, .inl DB, Fd.many, fun HC SC => ?_⟩
          have DC := dp_same SC DB
          refine ⟨(by show 2 ≤ sizeLine; decide), fun l2 hl2 => ?_⟩
          have SD : Same HC (upd HC l2 (.lst [.bl (areWhole 2 d), .bl (isBox d)])) := same_new hl2
          have DD := dp_same SD DC
          have two : DpAll K (upd HC l2 (.lst [.bl (areWhole 2 d), .bl (isBox d)])) [.bl (areWhole 2 d), .bl (isBox d)] [.bool (areWhole 2 d), .bool (isBox d)] := .cons (.bl _) (.cons (.bl _) .nil)
          have n1 : nice (.list [.bool (areWhole 2 d), .bool (isBox d)]) = true := by simp only [nice, niceAll, Bool.and_self]
          have n2 : PyData.depth (.list [.bool (areWhole 2 d), .bool (isBox d)]) ≤ 60 := by simp only [PyData.depth, PyData.depthAll]; omega
          have n3 : wide (.list [.bool (areWhole 2 d), .bool (isBox d)]) ≤ 1000000 := by simp only [wide, wideAll]; omega
          refine ⟨.ref l2, _, rfl, .lst sqL_new two, n1, n2, n3, ?_⟩
          refine ⟨z, rfl, z, d, rfl, DD, Fd, fun HE p3 SE LE => ?_⟩
          refine ⟨.ref p3, _, rfl, .lst LE (.cons (.bl _) (.cons (.bl _) .nil)), n1, n2, n3, rfl, _, rfl, iteNS rfl ?_⟩
          have DE := dp_same SE DD
          refine ⟨z, rfl, z, d, rfl, DE, f1, f2, f3, _, rfl, rfl, _, rfl, iteNS rfl ?_⟩
          exact ⟨(((SA.trans SB).trans SC).trans SD).trans SE, _, _, rfl⟩
        · obtain ⟨SA, y10, y11, rfl⟩ := hp
          exact ⟨B9.trans (But.of SA), pool_same P9 SA, _, _, _, _, _, _, _, _, _, _, rfl⟩
      · obtain ⟨B3, _, y1, y3, y4, y5, y6, y7, y8, y9, y10, y11, rfl⟩ := hp
        exact ⟨stay B3, _, _, _, _, _, _, _, _, _, _, _, rfl⟩
    · clear y1 y2 y3 y4 y5 y6 y7 y8 y9 y10 y11 P2 B2 free stay hp
      rintro σ2 H0 ⟨S0, y1, y2, y3, y4, y5, y6, y7, y8, y9, y10, y11, rfl⟩
      refine fun c1 h1 => ⟨Nat.zero_le _, fun c2 h2 => ⟨Nat.zero_le _, fun c3 h3 => ⟨(by show 1 ≤ sizeLine; decide), fun c4 h4 => ⟨(by show 2 ≤ sizeLine; decide), fun c5 h5 => ⟨(by show 3 ≤ sizeLine; decide), fun c6 h6 => ⟨(by show 2 ≤ sizeLine; decide), fun c7 h7 => ⟨(by show 2 ≤ sizeLine; decide), fun c8 h8 => ⟨(by show 2 ≤ sizeLine; decide), fun c9 h9 => ⟨(by show 10 ≤ sizeLine; decide), fun l hl => ?_⟩⟩⟩⟩⟩⟩⟩⟩⟩
      have Sl := same_new (o := .lst [.non, .int 5, .str "0 0 1 1", .ref c1, .ref c2, .ref c3, .ref c4, .ref c5, .ref c6, .ref c9]) hl
      have S9 := (same_new (o := .tup [.ref c7, .ref c8]) h9).trans Sl
      have S8 := (same_new (o := .tup [.int 1, .int 1]) h8).trans S9
      have S7 := (same_new (o := .tup [.int 0, .int 0]) h7).trans S8
      have S6 := (same_new (o := .tup [.int 0, .int 0, .int 0]) h6).trans S7
      have S5 := (same_new (o := .lst [.int 0, .int 0]) h5).trans S6
      have S4 := (same_new (o := .tup [.int 0]) h4).trans S5
      have S3 := (same_new (o := .tup []) h3).trans S4
      have S2 := (same_new (o := .lst []) h2).trans S3
      have S1 := (same_new (o := .dK []) h1).trans S2
      have T1 := S2 c1 (.dK []) upd_same
      have T2 := S3.seq (K := K) (sqL_new (p := c2) (xs := []))
      have T3 := sqT_same S4 (sqT_new (K := K) (p := c3) (xs := []))
      have T4 := sqT_same S5 (sqT_new (K := K) (p := c4) (xs := [.int 0]))
      have T5 := S6.seq (K := K) (sqL_new (p := c5) (xs := [.int 0, .int 0]))
      have T6 := sqT_same S7 (sqT_new (K := K) (p := c6) (xs := [.int 0, .int 0, .int 0]))
      have T7 := sqT_same S8 (sqT_new (K := K) (p := c7) (xs := [.int 0, .int 0]))
      have T8 := sqT_same S9 (sqT_new (K := K) (p := c8) (xs := [.int 1, .int 1]))
      have T9 := sqT_same Sl (sqT_new (K := K) (p := c9) (xs := [.ref c7, .ref c8]))
      have Tl := new_lst (K := K) (xs := [.non, .int 5, .str "0 0 1 1", .ref c1, .ref c2, .ref c3, .ref c4, .ref c5, .ref c6, .ref c9]) hl
      have each := bads T1 T2 T3 T4 T5 T6 T7 T8 T9
      refine ⟨l, rfl, ⟨_, Tl⟩, for_list (xs := [V.non, .int 5, .str "0 0 1 1", .ref c1, .ref c2, .ref c3, .ref c4, .ref c5, .ref c6, .ref c9]) (fun i σ H' => Same _ H' ∧ ∃ y4 : Option V, σ = [some (.ref a), y1, y2, y3, y4, y5, y6, y7, y8, y9, y10, y11]) ⟨Same.refl _, _, rfl⟩ (fun i σ H' _ hp => hp.1.seq Tl) (fun i z σ H' hz hp => ?_) (fun σ H' hp => ?_)⟩
      · obtain ⟨d, hd, many, n1, n2⟩ := each i z hz
        obtain ⟨SA, y4, rfl⟩ := hp
        refine ⟨z, rfl, z, d, rfl, th_same SA hd, many, fun HB SB => ?_⟩
        refine ⟨_, _, rfl, rfl, _, rfl, iteNS n1 ?_⟩
        refine ⟨z, rfl, z, d, rfl, th_same (SA.trans SB) hd, many, fun HC SC => ?_⟩
        refine ⟨_, _, rfl, rfl, _, rfl, iteNS n2 ?_⟩
        exact ⟨(SA.trans SB).trans SC, _, rfl⟩
      · obtain ⟨SA, y4, rfl⟩ := hp
        exact ⟨S0.trans (S1.trans SA), _, _, _, _, _, _, _, _, _, _, _, rfl⟩
end
end Vf

set_option Elab.async false
set_option linter.all false
set_option maxRecDepth 100000
namespace Vf
open PySem PySem.Spec PyProof.Rows L2
theorem all_mk {l : PySem.W.OpenLaw} {w : World} {K : PySem.W.Frag} {h : Heap} {mg : Str → Option Value} {fa f0 f1 f2 f3 f4 f5 f6 f7 f8 f9 : Addr} (X : K.In h) (G : h.Ns mainGlobals mg) (hfa : mg "law" = some (.ref fa))
    {od0 an0 od1 an1 od2 an2 od3 an3 od4 an4 od5 an5 od6 an6 od7 an7 od8 an8 od9 an9 : Option Addr} {sl0 sl1 sl2 sl3 sl4 sl5 sl6 sl7 sl8 sl9 : Array (Option Value)} {oc0 kV0 dc0 pm0 cd0 ct0 oc1 kV1 dc1 pm1 cd1 ct1 oc2 kV2 dc2 pm2 cd2 ct2 oc3 kV3 dc3 pm3 cd3 ct3 oc4 kV4 dc4 pm4 cd4 ct4 oc5 kV5 dc5 pm5 cd5 ct5 oc6 kV6 dc6 pm6 cd6 ct6 oc7 kV7 dc7 pm7 cd7 ct7 oc8 kV8 dc8 pm8 cd8 ct8 oc9 kV9 dc9 pm9 cd9 ct9 : Value}
    (a0 : PySem.W.nsIn K mainGlobals "is_whole" = some (some (.ref f0))) (l0 : K.lookup f0 = some ⟨oc0, od0, .func (PySem.W.fnOf "is_whole" "is_whole" (defArgs sWhole) (defBody sWhole) (defScope sWhole) .none kV0 dc0 pm0 an0 cd0 ct0), sl0⟩) (c0 : PySem.W.codeIn K cd0 "is_whole" = true) (k0 : PySem.W.keepIn K (.ref f0) = true)
    (a1 : PySem.W.nsIn K mainGlobals "are_whole" = some (some (.ref f1))) (l1 : K.lookup f1 = some ⟨oc1, od1, .func (PySem.W.fnOf "are_whole" "are_whole" (defArgs sAre) (defBody sAre) (defScope sAre) .none kV1 dc1 pm1 an1 cd1 ct1), sl1⟩) (c1 : PySem.W.codeIn K cd1 "are_whole" = true) (k1 : PySem.W.keepIn K (.ref f1) = true)
    (a2 : PySem.W.nsIn K mainGlobals "is_square" = some (some (.ref f2))) (l2 : K.lookup f2 = some ⟨oc2, od2, .func (PySem.W.fnOf "is_square" "is_square" (defArgs sSq) (defBody sSq) (defScope sSq) .none kV2 dc2 pm2 an2 cd2 ct2), sl2⟩) (c2 : PySem.W.codeIn K cd2 "is_square" = true) (k2 : PySem.W.keepIn K (.ref f2) = true)
    (a3 : PySem.W.nsIn K mainGlobals "is_box" = some (some (.ref f3))) (l3 : K.lookup f3 = some ⟨oc3, od3, .func (PySem.W.fnOf "is_box" "is_box" (defArgs sBox) (defBody sBox) (defScope sBox) .none kV3 dc3 pm3 an3 cd3 ct3), sl3⟩) (c3 : PySem.W.codeIn K cd3 "is_box" = true) (k3 : PySem.W.keepIn K (.ref f3) = true)
    (a4 : PySem.W.nsIn K mainGlobals "_law_pool" = some (some (.ref f4))) (l4 : K.lookup f4 = some ⟨oc4, od4, .func (PySem.W.fnOf "_law_pool" "_law_pool" (defArgs sPool) (defBody sPool) (defScope sPool) .none kV4 dc4 pm4 an4 cd4 ct4), sl4⟩) (c4 : PySem.W.codeIn K cd4 "_law_pool" = true) (k4 : PySem.W.keepIn K (.ref f4) = true)
    (a5 : PySem.W.nsIn K mainGlobals "_law_take" = some (some (.ref f5))) (l5 : K.lookup f5 = some ⟨oc5, od5, .func (PySem.W.fnOf "_law_take" "_law_take" (defArgs sTake) (defBody sTake) (defScope sTake) .none kV5 dc5 pm5 an5 cd5 ct5), sl5⟩) (c5 : PySem.W.codeIn K cd5 "_law_take" = true) (k5 : PySem.W.keepIn K (.ref f5) = true)
    (a6 : PySem.W.nsIn K mainGlobals "_law_is_tuple" = some (some (.ref f6))) (l6 : K.lookup f6 = some ⟨oc6, od6, .func (PySem.W.fnOf "_law_is_tuple" "_law_is_tuple" (defArgs sIsT) (defBody sIsT) (defScope sIsT) .none kV6 dc6 pm6 an6 cd6 ct6), sl6⟩) (c6 : PySem.W.codeIn K cd6 "_law_is_tuple" = true) (k6 : PySem.W.keepIn K (.ref f6) = true)
    (a7 : PySem.W.nsIn K mainGlobals "_law_judged" = some (some (.ref f7))) (l7 : K.lookup f7 = some ⟨oc7, od7, .func (PySem.W.fnOf "_law_judged" "_law_judged" (defArgs sJud) (defBody sJud) (defScope sJud) .none kV7 dc7 pm7 an7 cd7 ct7), sl7⟩) (c7 : PySem.W.codeIn K cd7 "_law_judged" = true) (k7 : PySem.W.keepIn K (.ref f7) = true)
    (a8 : PySem.W.nsIn K mainGlobals "_law_bent" = some (some (.ref f8))) (l8 : K.lookup f8 = some ⟨oc8, od8, .func (PySem.W.fnOf "_law_bent" "_law_bent" (defArgs sBent) (defBody sBent) (defScope sBent) .none kV8 dc8 pm8 an8 cd8 ct8), sl8⟩) (c8 : PySem.W.codeIn K cd8 "_law_bent" = true) (k8 : PySem.W.keepIn K (.ref f8) = true)
    (a9 : PySem.W.nsIn K mainGlobals "law" = some (some (.ref f9))) (l9 : K.lookup f9 = some ⟨oc9, od9, .func (PySem.W.fnOf "law" "law" (defArgs sLaw) (defBody sLaw) (defScope sLaw) .none kV9 dc9 pm9 an9 cd9 ct9), sl9⟩) (c9 : PySem.W.codeIn K cd9 "law" = true) (k9 : PySem.W.keepIn K (.ref f9) = true)
    (z0 : PySem.W.nsIn K mainGlobals "isinstance" = some none)
    (z1 : PySem.W.nsIn K mainGlobals "int" = some none)
    (z2 : PySem.W.nsIn K mainGlobals "bool" = some none)
    (z3 : PySem.W.nsIn K mainGlobals "tuple" = some none)
    (z4 : PySem.W.nsIn K mainGlobals "len" = some none)
    (z5 : PySem.W.nsIn K mainGlobals "all" = some none)
    (z6 : PySem.W.nsIn K mainGlobals "list" = some none)
    (z7 : PySem.W.nsIn K mainGlobals "range" = some none)
    (z8 : PySem.W.nsIn K mainGlobals "max" = some none)
    (z9 : PySem.W.nsIn K mainGlobals "min" = some none)
    (z10 : PySem.W.nsIn K mainGlobals "repr" = some none) :
    ∃ fd : FuncData, (∀ (s : Shared) (v : Value), BindsTo s fd ⟨[v], []⟩ [("_law_script", v)]) ∧ ∀ base : Heap, K.In base → base.Ns mainGlobals mg → FnG l.prog w K mg base CX0 4 fa fd ["_law_script"] (spLaw K) := by
  have e := hfa.symm.trans (PySem.W.mg_of X G a9)
  cases e
  have F0 := fun_mk (st := sWhole) l0 c0 k0
  have b0 := F0.binds (ps := ["thing"]) fun _ _ _ _ _ _ us hl => match us, hl with | [_], _ => rfl
  have g0 := PySem.W.mg_of X G a0
  have F1 := fun_mk (st := sAre) l1 c1 k1
  have b1 := F1.binds (ps := ["thing", "many"]) fun _ _ _ _ _ _ us hl => match us, hl with | [_, _], _ => rfl
  have g1 := PySem.W.mg_of X G a1
  have F2 := fun_mk (st := sSq) l2 c2 k2
  have b2 := F2.binds (ps := ["thing"]) fun _ _ _ _ _ _ us hl => match us, hl with | [_], _ => rfl
  have g2 := PySem.W.mg_of X G a2
  have F3 := fun_mk (st := sBox) l3 c3 k3
  have b3 := F3.binds (ps := ["thing"]) fun _ _ _ _ _ _ us hl => match us, hl with | [_], _ => rfl
  have g3 := PySem.W.mg_of X G a3
  have F4 := fun_mk (st := sPool) l4 c4 k4
  have b4 := F4.binds (ps := ["_law_script", "_law_k"]) fun _ _ _ _ _ _ us hl => match us, hl with | [_, _], _ => rfl
  have g4 := PySem.W.mg_of X G a4
  have F5 := fun_mk (st := sTake) l5 c5 k5
  have b5 := F5.binds (ps := ["_law_pool_here", "_law_sides"]) fun _ _ _ _ _ _ us hl => match us, hl with | [_, _], _ => rfl
  have g5 := PySem.W.mg_of X G a5
  have F6 := fun_mk (st := sIsT) l6 c6 k6
  have b6 := F6.binds (ps := ["_law_thing", "_law_many"]) fun _ _ _ _ _ _ us hl => match us, hl with | [_, _], _ => rfl
  have g6 := PySem.W.mg_of X G a6
  have F7 := fun_mk (st := sJud) l7 c7 k7
  have b7 := F7.binds (ps := ["_law_thing"]) fun _ _ _ _ _ _ us hl => match us, hl with | [_], _ => rfl
  have g7 := PySem.W.mg_of X G a7
  have F8 := fun_mk (st := sBent) l8 c8 k8
  have b8 := F8.binds (ps := ["_law_pool_here", "_law_thing"]) fun _ _ _ _ _ _ us hl => match us, hl with | [_, _], _ => rfl
  have g8 := PySem.W.mg_of X G a8
  have F9 := fun_mk (st := sLaw) l9 c9 k9
  have m_isinstance := PySem.W.mg_none_of X G z0
  have m_int := PySem.W.mg_none_of X G z1
  have m_bool := PySem.W.mg_none_of X G z2
  have m_tuple := PySem.W.mg_none_of X G z3
  have m_len := PySem.W.mg_none_of X G z4
  have m_all := PySem.W.mg_none_of X G z5
  have m_list := PySem.W.mg_none_of X G z6
  have m_range := PySem.W.mg_none_of X G z7
  have m_max := PySem.W.mg_none_of X G z8
  have m_min := PySem.W.mg_none_of X G z9
  have m_repr := PySem.W.mg_none_of X G z10
  refine ⟨PySem.W.fnOf "law" "law" (defArgs sLaw) (defBody sLaw) (defScope sLaw) .none kV9 dc9 pm9 an9 cd9 ct9, fun s v => .of_eq rfl, fun base _ _ => ?_⟩
  have OA : FnOk l.prog w K mg base CX0 2 f1 _ ["thing", "many"] (spAre K) := ok_are (k := 0) F1 F0 b0 g0 m_isinstance m_int m_bool m_tuple m_len m_all
  have OS : FnOk l.prog w K mg base CX0 3 f2 _ ["thing"] (spSq K) := ok_sq F2 OA k1 b1 g1
  have OB : FnOk l.prog w K mg base CX0 3 f3 _ ["thing"] (spBox K) := ok_box F3 OA k1 b1 g1
  have OP : FnOk l.prog w K mg base CX0 1 f4 _ ["_law_script", "_law_k"] (spPool K) := ok_pool F4 m_len
  have OT : FnOk l.prog w K mg base CX0 1 f5 _ ["_law_pool_here", "_law_sides"] (spTake K) := ok_take F5
  have OI : FnOk l.prog w K mg base CX0 1 f6 _ ["_law_thing", "_law_many"] (spIsT K) := ok_isT F6 m_isinstance m_int m_bool m_tuple m_len
  have OJ : FnOk l.prog w K mg base CX0 2 f7 _ ["_law_thing"] (spJud K) := ok_jud F7 OI k6 b6 g6
  have ON : FnOk l.prog w K mg base CX0 2 f8 _ ["_law_pool_here", "_law_thing"] (spBent K) := ok_bent F8 OT k5 b5 g5 m_len m_list
  exact ok_law F9 (OP.mono (by decide)) k4 b4 g4 (OT.mono (by decide)) k5 b5 g5 (ON.mono (by decide)) k8 b8 g8 OS k2 b2 g2 OB k3 b3 g3 (OJ.mono (by decide)) k7 b7 g7 m_range m_max m_min m_len m_repr
end Vf
open PySem PySem.W PyProof.Rows
set_option maxHeartbeats 0 in
theorem PySem.Challenge.cw_boxregions_k01_squares_and_boxes_judged_holds : PySem.Challenge.rw_boxregions_k01_squares_and_boxes_judged.Holds := by
  w_on; o_law; k_head; (case hw => w_witness2)
  k_fill
  refine Vf.walkG (l := PySem.Challenge.rw_boxregions_k01_squares_and_boxes_judged) (n := 63) (k := 4) (x := "_law_script") (CX := L2.CX0) (sp := Vf.spLaw) rfl (by decide) rfl ⟨rfl, by decide, by decide⟩ (fun w h Y => PySem.W.kIn_of Y) ?F (fun K H a ns hl _ hS => ⟨a, ns, rfl, hS, hl, fun _ => rfl⟩) (fun _ _ _ _ h => h)
  case F =>
    intro w mg fa h KX G hmg
    refine' Vf.all_mk KX G hmg ?a0 ?l0 ?c0 ?k0 ?a1 ?l1 ?c1 ?k1 ?a2 ?l2 ?c2 ?k2 ?a3 ?l3 ?c3 ?k3 ?a4 ?l4 ?c4 ?k4 ?a5 ?l5 ?c5 ?k5 ?a6 ?l6 ?c6 ?k6 ?a7 ?l7 ?c7 ?k7 ?a8 ?l8 ?c8 ?k8 ?a9 ?l9 ?c9 ?k9 ?z0 ?z1 ?z2 ?z3 ?z4 ?z5 ?z6 ?z7 ?z8 ?z9 ?z10
    (case a0 => k_is); (case l0 => k_is); (case c0 => k_is); (case k0 => k_is); (case a1 => k_is); (case l1 => k_is); (case c1 => k_is); (case k1 => k_is); (case a2 => k_is); (case l2 => k_is); (case c2 => k_is); (case k2 => k_is); (case a3 => k_is); (case l3 => k_is); (case c3 => k_is); (case k3 => k_is); (case a4 => k_is); (case l4 => k_is); (case c4 => k_is); (case k4 => k_is); (case a5 => k_is); (case l5 => k_is); (case c5 => k_is); (case k5 => k_is); (case a6 => k_is); (case l6 => k_is); (case c6 => k_is); (case k6 => k_is); (case a7 => k_is); (case l7 => k_is); (case c7 => k_is); (case k7 => k_is); (case a8 => k_is); (case l8 => k_is); (case c8 => k_is); (case k8 => k_is); (case a9 => k_is); (case l9 => k_is); (case c9 => k_is); (case k9 => k_is); (case z0 => k_is); (case z1 => k_is); (case z2 => k_is); (case z3 => k_is); (case z4 => k_is); (case z5 => k_is); (case z6 => k_is); (case z7 => k_is); (case z8 => k_is); (case z9 => k_is); (case z10 => k_is)
