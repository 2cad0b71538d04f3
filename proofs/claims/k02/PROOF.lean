import PyProof.Rows.All
import Wide.All
import OpenK.AllK
import Wide.FinOn
import HandS.ExcInit
import HandS.ExcCtx
import HandS.WordsExc
import HandS.ExcField
import KE.KExcIs
import HandS.IsInst
import HandS.ExcIs
import HandS.ExcValue
import PyProof.ExcBaseAll.RuntimeError
import PyProof.ExcBaseAll.OverflowError
import PyProof.ExcBaseAll.IndexError
import PyProof.ExcBaseAll.LookupError
import PyProof.ExcBaseAll.ValueError
import PyProof.Rows.FactsExc_KeyError
import HandS.Star
import HandS.OwnEq
import HandS.Records
import HandS.ClsMeth
import HandS.Property
import HandS.ForMost
import HandS.TupAny
import HandS.Flow
import HandS.Wide
import HandS.Codes
import HandS.Style
import HandS.Text
import HandS.TupLe
import HandS.SortRule
import HandS.SortInts
import HandS.Dict
import PySem.Challenge.RW_boxregions_k02_exceptions_apart
set_option Elab.async false
set_option linter.all false
set_option maxRecDepth 100000
set_option maxHeartbeats 4000000
/-! Exceptions of own classes over any built-in one: made by place or by name, kept as values. -/
namespace Vf
open PySem PySem.Spec PyProof.Rows PySem.W PySem.Calls PySem.HandSPX
open Builtin Builtin.ObjectAttr
/-- what must be known of the built-in class underneath: Bn has its __new__, Bi its __init__ -/
structure EF (Bn Bi newId initId : String) (bB : List Value) : Prop where
  ends : newId.endsWith ".__new__" = true
  owner : newId.dropRight 8 = Bn
  entry : entryFor table newId = some Builtin.«BaseException.__new__»
  quiet : newId.startsWith "lifetime." = false
  nSplit : splitId newId = some (Bn, "__new__")
  nKind : builtinKind newId = some .builtinFn
  nRow : Manifest.signature? newId = some ⟨.any, Bn, Bn, .cls, [⟨"args", .varPos, false⟩, ⟨"kwargs", .varKw, false⟩]⟩
  plain : plainId initId = true
  iEntry : entryFor table initId = some Builtin.«BaseException.__init__»
  iSplit : splitId initId = some (Bi, "__init__")
  iKind : builtinKind initId = some .slot
  iRow : Manifest.signature? initId = some ⟨.positional, "*", Bi, .self, [⟨"args", .varPos, false⟩]⟩
  hasN : bB.contains (.type Bn) = true
  hasI : bB.contains (.type Bi) = true
  noAttr : bB.contains (.type "AttributeError") = false
  noName : bB.contains (.type "NameError") = false
  canon : Manifest.canonical newId = Manifest.canonical "BaseException.__new__"
  starN : (Bn != "*") = true
  starI : (Bi != "*") = true
  obj : bB.contains (.type "object") = true
  pass : ∀ self, refuseLoop self "__setattr__" bB = pure ()

section
variable {M : Model} {A : Around} {E : Value → Shared → Prop} {h : Heap} {gs : Array GenState} {dr : Drawn} {tk : Nat} {os : OsState}
variable {nm q : Str} {C N : Addr} {bs bm bB : List Value} {hd : Bool} {sn : List Str} {sub : List Value} {ab : Bool} {col : Option Bool} {dd : Option Addr} {k0 k1 k2 k3 k5 : Option Value} {Bn Bi newId initId : String}
theorem kw_new (F : EF Bn Bi newId initId bB) (hT : ∀ Y : String, bm.contains (.type Y) = bB.contains (.type Y)) {xs : List Value} {kw : List (Str × Value)} {Q : Unit → Shared → Prop}
    (hC : h.get? C = some (excClassObj nm q C N bs bm hd sn sub ab col dd k0 k1 k2 k3 k5 newId)) (hq : Q () ⟨h, gs, dr, tk, os⟩) : wpAny M A (checkBuiltinCall newId ⟨.ref C :: xs, kw⟩) Q E ⟨h, gs, dr, tk, os⟩ := by
  have under : (Value.ref C :: bm).contains (.type Bn) = true := by rw [List.contains_cons, hT, F.hasN, Bool.or_true]
  have notStar := F.starN
  simp only [checkBuiltinCall, F.nKind, F.nSplit, F.nRow]
  repeat (first | refine wpAny_loadPart_at hC ?_ | (refine wpAny_isSubtype_exc hC ?_; rw [under]) | refine wpAny_staticBase_exc hC ?_ | refine wpAny_madeBy_exc hC ?_ | simp only [bne_self_eq_false, Bool.false_eq_true, if_false] | wp_step)
  exact hq
theorem kw_init (F : EF Bn Bi newId initId bB) (hT : ∀ Y : String, bm.contains (.type Y) = bB.contains (.type Y)) {e : Addr} {oe : Obj} {xs : List Value} {Q : Unit → Shared → Prop}
    (hC : h.get? C = some (excClassObj nm q C N bs bm hd sn sub ab col dd k0 k1 k2 k3 k5 newId)) (he : h.get? e = some oe) (hc : oe.cls = .ref C) (hq : Q () ⟨h, gs, dr, tk, os⟩) :
    wpAny M A (checkBuiltinCall initId ⟨.ref e :: xs, []⟩) Q E ⟨h, gs, dr, tk, os⟩ := by
  have under : (Value.ref C :: bm).contains (.type Bi) = true := by rw [List.contains_cons, hT, F.hasI, Bool.or_true]
  have notStar := F.starI
  simp only [checkBuiltinCall, F.iKind, F.iSplit, F.iRow]
  repeat (first | (with_reducible refine wpAny_loadPart_at he ?_; rw [hc]) | with_reducible refine wpAny_loadPart_at hC ?_ | (with_reducible refine wpAny_isSubtype_exc hC ?_; rw [under]) | wp_step)
  refine wpAny_onRaise ?_
  rw [show ∀ (a b : String) (n : Nat), Bind.check ⟨.positional, "*", Bi, .self, [⟨"args", .varPos, false⟩]⟩ a b n (List.map (fun y => y.fst) ({ pos := Value.ref e :: xs } : Args).kw) = pure () from
    fun a b n => check_star_args _ _ _ _ _ _]
  exact wpAny_pure hq
end
section
variable {prog : Program} {w : World} {A : Around} {E : Value → Shared → Prop} {R : Result → Shared → Prop} {h : Heap} {gs : Array GenState} {dr : Drawn} {tk : Nat} {os : OsState}
variable {nm q : Str} {C N : Addr} {bs bm bB : List Value} {hd : Bool} {sn : List Str} {sub : List Value} {ab : Bool} {col : Option Bool} {dd : Option Addr} {k0 k1 k2 k3 k5 : Option Value} {Bn Bi newId initId : String}
theorem kw_make (F : EF Bn Bi newId initId bB) (hT : ∀ Y : String, bm.contains (.type Y) = bB.contains (.type Y)) {xs : List Value} {kw : List (Str × Value)}
    (hC : h.get? C = some (excClassObj nm q C N bs bm hd sn sub ab col dd k0 k1 k2 k3 k5 newId))
    (hq : R (.ok (.ret (.ref (h.objs.size + 1)))) ⟨(h.push (W.kdv_tup xs)).push (excO C h.objs.size), gs, dr, tk, os⟩) (few : xs.length ≤ sizeLine) :
    codeAny (model prog w) A (.builtin newId ⟨.ref C :: xs, kw⟩) R ⟨h, gs, dr, tk, os⟩ := by
  have isEnd := F.ends
  have u1 : (Value.ref C :: bm).contains (.type Bn) = true := by rw [List.contains_cons, hT, F.hasN, Bool.or_true]
  have u2 : (Value.ref C :: bm).contains (.type "AttributeError") = false := by rw [List.contains_cons, hT, F.noAttr] <;> rfl
  have u3 : (Value.ref C :: bm).contains (.type "NameError") = false := by rw [List.contains_cons, hT, F.noName] <;> rfl
  refine codeAny_builtinAt F.entry ?_
  unfold Builtin.«BaseException.__new__»
  refine PySem.wpAt_bind ?_
  show PySem.wpAt _ _ _ (PySem.stack >>= _) _ _ _
  refine PySem.wpAt_bind (PySem.wpAt_stack fun p below => PySem.wpAt_of_wpAny ?_)
  wp_walk
  refine PySem.wpAt_of_wpAny ?_
  rw [F.owner]
  repeat (first | with_reducible refine wpAny_madeHere_exc F.canon hC ?_ | with_reducible refine wpAny_loadPart_at hC ?_ | (with_reducible refine wpAny_isSubtype_exc hC ?_; first | rw [u1] | rw [u2] | rw [u3]) | wp_step)
  show R _ _
  rw [Heap.size_push]
  exact hq
theorem kw_type (F : EF Bn Bi newId initId bB) (hT : ∀ Y : String, bm.contains (.type Y) = bB.contains (.type Y)) {xs : List Value} {kw : List (Str × Value)} {fI : Addr} {Q : Fin → Shared → Prop}
    (hC : h.get? C = some (excClassObj nm q C N bs bm hd sn sub ab col dd k0 k1 k2 k3 k5 newId))
    (li : W.Looks (model prog w) h (typeLookup (.ref C) "__init__") (some (.ref fI))) (lb : ∀ self, W.Looks (model prog w) h (bindSpecial (.ref fI) self) (.ref fI, [self])) (few : xs.length ≤ sizeLine)
    (hq : codeAny (model prog w) A (.call (.ref fI) ⟨.ref (h.objs.size + 1) :: xs, kw⟩)
      (fun r s' => match r with | .ok (.ret v) => v = .none ∧ Q (.done (.ret (.ref (h.objs.size + 1)))) s' | .ok _ => False | .error e => E e s')
      ⟨(h.push (W.kdv_tup xs)).push (excO C h.objs.size), gs, dr, tk, os⟩) :
    wpAny (model prog w) A (Builtin.«type.__call__» ⟨.ref C :: xs, kw⟩) Q E ⟨h, gs, dr, tk, os⟩ := by
  repeat (first | with_reducible refine wpAny_loadPart_at hC ?_ | with_reducible refine wpAny_madeBy_exc hC ?_ | wp_step)
  refine codeAny_call_builtin_code (Code.quiet_builtin _ F.quiet) (kw_new F hT hC ?_)
  refine kw_make F hT hC ?_ few
  show wpAny _ _ _ _ _ _
  have more : ∀ b o, h.get? b = some o → ((h.push (W.kdv_tup xs)).push (excO C h.objs.size)).get? b = some o := fun b o e => Heap.get?_push_of_some _ (Heap.get?_push_of_some _ e)
  have hC2 := more _ _ hC
  have there : ((h.push (W.kdv_tup xs)).push (excO C h.objs.size)).get? (h.objs.size + 1) = some (excO C h.objs.size) := by heap_get
  have self_in : (Value.ref C :: bm).contains (.ref C) = true := by simp
  have li2 := li.keeps more
  have lb2 := (lb (.ref (h.objs.size + 1))).keeps more
  unfold isInstance
  repeat (first | with_reducible refine wpAny_loadPart_at there ?_ | (with_reducible refine wpAny_isSubtype_exc hC2 ?_; rw [self_in]) | wp_step)
  show wpAny _ _ (typeLookup (.ref C) _) _ _ _
  refine li2.at ?_
  refine wpAny_holding (wpAny_bind (lb2.at ?_))
  refine wpAny_bind (wpAny_call (codeAny_mono hq fun r s' back => ?_))
  rcases r with e | (v | _ | _ | _) <;> first | exact back | exact back.elim | skip
  obtain ⟨rfl, back⟩ := back
  first
    | exact wpAny_pure (wpAny_pure back)
    | (wp_walk; exact back)
theorem kw_check {M : Model} {xs : List Value} {kw : List (Str × Value)} {Q : Unit → Shared → Prop} (hC : h.get? C = some (excClassObj nm q C N bs bm hd sn sub ab col dd k0 k1 k2 k3 k5 newId))
    (hq : Q () ⟨h, gs, dr, tk, os⟩) : wpAny M A (checkBuiltinCall "type.__call__" ⟨.ref C :: xs, kw⟩) Q E ⟨h, gs, dr, tk, os⟩ := by
  have f3 := tc_sub
  have isType : (⟨h, gs, dr, tk, os⟩ : Shared).TypeIs (.ref C) "type" := ⟨_, hC, rfl⟩
  simp only [checkBuiltinCall, tc_kind, tc_split]
  repeat (any_goals (first | assumption | with_reducible refine wpAny_loadPart_at hC ?_ | with_reducible refine wpAny_onRaise ?_ | with_reducible refine wpAny_map ?_ | wp_step))
theorem kw_call (F : EF Bn Bi newId initId bB) (hT : ∀ Y : String, bm.contains (.type Y) = bB.contains (.type Y)) {xs : List Value} {kw : List (Str × Value)} {fI : Addr}
    (hC : h.get? C = some (excClassObj nm q C N bs bm hd sn sub ab col dd k0 k1 k2 k3 k5 newId))
    (li : W.Looks (model prog w) h (typeLookup (.ref C) "__init__") (some (.ref fI))) (lb : ∀ self, W.Looks (model prog w) h (bindSpecial (.ref fI) self) (.ref fI, [self])) (few : xs.length ≤ sizeLine)
    (hq : codeAny (model prog w) (A.under (.builtin "type.__call__" ⟨.ref C :: xs, kw⟩)) (.call (.ref fI) ⟨.ref (h.objs.size + 1) :: xs, kw⟩) (W.InitBack (h.objs.size + 1) R)
      ⟨(h.push (W.kdv_tup xs)).push (excO C h.objs.size), gs, dr, tk, os⟩) :
    codeAny (model prog w) A (.call (.ref C) ⟨xs, kw⟩) R ⟨h, gs, dr, tk, os⟩ := by
  have f1 := tc_lookup
  have f2 := tc_bind (.ref C)
  have isType : (⟨h, gs, dr, tk, os⟩ : Shared).TypeIs (.ref C) "type" := ⟨_, hC, rfl⟩
  refine codeAny_of_tree ?_
  show wpAny _ _ (callAny (.ref C) _) _ _ _
  repeat (any_goals (first | assumption | with_reducible refine wpAny_loadPart_at hC ?_ | wp_step))
  refine ⟨rfl, ?_⟩
  refine codeAny_call_builtin_at (Code.quiet_builtin _ (by decide +kernel)) entry_typeCall (kw_check hC (kw_type F hT hC li lb few ?_))
  refine codeAny_mono hq fun r s' back => ?_
  rcases r with e | (v | _ | _ | _) <;> exact back
theorem kw_base (F : EF Bn Bi newId initId bB) (hT : ∀ Y : String, bm.contains (.type Y) = bB.contains (.type Y)) {e t0 : Addr} {xs : List Value}
    (hC : h.get? C = some (excClassObj nm q C N bs bm hd sn sub ab col dd k0 k1 k2 k3 k5 newId)) (he : h.get? e = some (excO C t0)) (few : xs.length ≤ sizeLine)
    (hq : ∀ h' t1, (∀ b o, b ≠ e → h.get? b = some o → h'.get? b = some o) → h'.get? e = some (excO C t1) → R (.ok (.ret .none)) ⟨h', gs, dr, tk, os⟩) :
    codeAny (model prog w) A (.call (.builtin initId) ⟨.ref e :: xs, []⟩) R ⟨h, gs, dr, tk, os⟩ := by
  refine codeAny_call_builtin F.plain F.iEntry (kw_init F hT hC he rfl ?_)
  wp_walk
  refine hq _ h.objs.size (fun b o ne ho => ?_) ?_
  · rw [Heap.get?_update_other _ _ (Ne.symm ne)]
    exact Heap.get?_push_of_some _ ho
  · rw [Heap.get?_update_self _ (Heap.get?_push_of_some _ he) rfl] <;> rfl
end
end Vf

set_option Elab.async false
set_option linter.all false
set_option maxRecDepth 100000
set_option maxHeartbeats 4000000
/-! Exceptions over any built-in class, as values: their field, their __init__, making, reading, isinstance. -/
namespace Vf
open PySem PySem.Spec PyProof.Rows PySem.W PySem.Calls PySem.HandSPX L2
/-- own classes, then the built-in ones of bB -/
def overB (bB : List Value) : List Value → Bool
  | .ref _ :: r => overB bB r
  | l => l == bB
theorem overB_cases {bB : List Value} : ∀ l : List Value, overB bB l = true → (∃ c r, l = .ref c :: r ∧ overB bB r = true) ∨ l = bB
  | [], e => .inr (beq_iff_eq.mp e)
  | .ref c :: r, e => .inl ⟨c, r, rfl, e⟩
  | .none :: _, e => .inr (beq_iff_eq.mp e)
  | .ellipsis :: _, e => .inr (beq_iff_eq.mp e)
  | .notImplemented :: _, e => .inr (beq_iff_eq.mp e)
  | .bool _ :: _, e => .inr (beq_iff_eq.mp e)
  | .int _ _ :: _, e => .inr (beq_iff_eq.mp e)
  | .float _ _ :: _, e => .inr (beq_iff_eq.mp e)
  | .str _ _ :: _, e => .inr (beq_iff_eq.mp e)
  | .bytes _ _ :: _, e => .inr (beq_iff_eq.mp e)
  | .type _ :: _, e => .inr (beq_iff_eq.mp e)
  | .builtin _ :: _, e => .inr (beq_iff_eq.mp e)
section
variable {Bn Bi newId initId : String} {bB : List Value}
theorem over_pass (F : EF Bn Bi newId initId bB) (self : Value) : ∀ l : List Value, overB bB l = true → refuseLoop self "__setattr__" l = pure () := by
  intro l
  induction l with
  | nil =>
    intro e
    rcases overB_cases [] e with ⟨c, r, q, h⟩ | q
    · cases q
    · rw [q]
      exact F.pass self
  | cons a r ih =>
    intro e
    rcases overB_cases (a :: r) e with ⟨c, r2, q, h⟩ | q
    · obtain ⟨rfl, rfl⟩ := List.cons.inj q
      rw [refuseLoop_ref]
      exact ih h
    · rw [q]
      exact F.pass self
theorem over_has (Y : String) : ∀ l : List Value, overB bB l = true → l.contains (.type Y) = bB.contains (.type Y) := by
  intro l
  induction l with
  | nil =>
    intro e
    rcases overB_cases [] e with ⟨c, r, q, h⟩ | q
    · cases q
    · rw [q]
  | cons a r ih =>
    intro e
    rcases overB_cases (a :: r) e with ⟨c, r2, q, h⟩ | q
    · obtain ⟨rfl, rfl⟩ := List.cons.inj q
      rw [List.contains_cons, ih h] <;> rfl
    · rw [q]
end
/-! ### the first field -/
section
open Builtin Builtin.ObjectAttr
variable {prog : Program} {w : World} {A : Around} {E : Value → Shared → Prop} {R : Result → Shared → Prop} {hp : Heap} {gs : Array GenState} {dr : Drawn} {tk0 : Nat} {os : OsState} {Bn Bi newId initId : String} {bB : List Value}
theorem set_first (F : EF Bn Bi newId initId bB) {K : W.Frag} {name : Str} {tk : Tok} {v : Value} {x C : Addr} {fv : Array Value} {cd : ClassData}
    (X : K.In hp) (hx : hp.get? x = some { cls := .ref C, data := .fields fv }) (hcd : W.clsIn K C = some cd) (hm : ∃ bm, cd.mro = .ref C :: bm ∧ overB bB bm = true) (hh : cd.hasDict = true) (ha : W.findIn K (.ref C) name = some none)
    (hq : ∀ h' tk' dx, (∀ b o, b ≠ x → hp.get? b = some o → h'.get? b = some o) → hp.objs.size ≤ dx → dx ≠ x → h'.get? x = some { cls := .ref C, dict := some dx, data := .fields fv } →
      h'.Ns1 dx (fun y => if y = name then some v else none) → R (.ok (.ret .none)) ⟨h', gs, dr, tk', os⟩) :
    codeAny (model prog w) A (.call (.builtin "object.__setattr__") ⟨[.ref x, .str name tk, v], []⟩) R ⟨hp, gs, dr, tk0, os⟩ := by
  obtain ⟨bm, em, ov⟩ := hm
  have I : W.InstAt hp x { cls := .ref C, data := .fields fv } C none := ⟨hx, rfl, rfl, trivial⟩
  have SO := PySem.F.store_object
  have some_ : cd.mro.isEmpty = false := by rw [em] <;> rfl
  have top : cd.mro.contains (.type "object") = true := by
    rw [em, List.contains_cons, over_has "object" bm ov, F.obj, Bool.or_true]
  have apart : x ≠ hp.objs.size := Nat.ne_of_lt (Heap.lt_size hx)
  have sub : W.Looks (model prog w) hp (isInstance (.ref x) (.type "object")) true := I.type.andThen (W.looks_mroIn X (by unfold W.mroIn; rw [hcd, Option.bind_some, if_neg (by rw [some_]; decide), top]))
  refine codeAny_call_builtin SO.slot.plain SO.entry (@W.check_slot (model prog w) _ _ ⟨hp, gs, dr, tk0, os⟩ "object.__setattr__" "object" "__setattr__" (.ref x) [.str name tk, v] [] _ SO.kind SO.split sub (SO.args (.ref x) (.str name tk) v) ?_)
  have lm : W.Looks (model prog w) hp (mroOf (.ref C)) cd.mro := (W.looks_clsIn X hcd).andThen .now
  have ln : W.Looks (model prog w) hp (storeTaker? none) none := .now
  have lc : W.Looks (model prog w) hp (classData C) cd := W.looks_clsIn X hcd
  rw [W.osa_eq, refuse_eq]
  refine wpAny_bind (wpAny_bind (I.type.at (wpAny_bind (lm.at ?_))))
  rw [em, refuseLoop_ref, over_pass F _ bm ov]
  refine wpAny_pure (wpAny_bind (I.type.at (wpAny_bind ((W.looks_findIn X ha).at (wpAny_bind (ln.at ?_))))))
  show wpAny _ _ (storeInOwnDict (.ref x) (.ref C) (.str name tk) name v false) _ _ _
  obtain ⟨nm, bs, mro, ns, qn, hd, sn, sb, ab, col, del⟩ := cd
  dsimp only at hh
  subst hh
  unfold storeInOwnDict ownDictForStores
  repeat (first | with_reducible refine store_in_new ?_ ?_ | with_reducible refine wpAny_loadPart_at hx ?_ | with_reducible refine lc.at ?_ | wp_step)
  · exact ⟨_, #[], _, (Heap.get?_update_ne _ _ _ _ apart.symm).trans (Heap.get?_push_at rfl rfl), rfl, fun e he => absurd he (by simp), fun _ => rfl⟩
  · intro h' tk' hn' hs
    have hx1 : (hp.push { cls := .type "dict", data := .dict #[] }).get? x = some { cls := .ref C, data := .fields fv } := Heap.get?_push_of_some _ hx
    refine hq h' tk' hp.objs.size (fun b o hb ho => ?_) (Nat.le_refl _) apart.symm ?_ hn'
    · exact (hs.2 b (Nat.ne_of_lt (Heap.lt_size ho))).trans ((Heap.get?_update_ne _ _ _ _ hb).trans (Heap.get?_push_of_some _ ho))
    · exact (hs.2 x apart).trans (Heap.get?_update_self _ hx1 rfl)
end
/-- what the written part says of such a class -/
structure OexG (K : W.Frag) (C : Addr) (newId : String) (bB : List Value) : Prop where
  cls : ∃ nm q N bs bm sn sub ab col dd k0 k1 k2 k3 k5, K.lookup C = some (excClassObj nm q C N bs bm true sn sub ab col dd k0 k1 k2 k3 k5 newId) ∧ overB bB bm = true
  sa : W.findIn K (.ref C) "__setattr__" = some (some (.builtin "object.__setattr__"))
  kC : keepIn K (.ref C) = true
section
variable {X : Cx} {pins : List (Addr × Obj)} {σ : L2.St} {H : Hp} {s : Shared} {a C dx : Addr} {f : Str} {y : V} {u : Value} {fs : List (Str × V)} {A : Around} {Bn Bi newId initId : String} {bB : List Value}
theorem field_ok {Q : Unit → Shared → Prop} {E : Value → Shared → Prop} (F : EF Bn Bi newId initId bB) (T : OexG X.K C newId bB) (I : Inv X pins σ H s) (e : H a = some (exo a C none)) (hno : W.findIn X.K (.ref C) f = some none) (ry : RelV y u)
    (h : ∀ dx s', H dx = none → dx ≠ a → Inv X pins σ (upd (upd H dx (exd dx [(f, y)])) a (exo a C (some dx))) s' → Q () s') : wpAny (model X.prog X.w) A (setAttr (.ref a) f u) Q E s := by
  obtain ⟨nm, q, N, bs, bm, sn, sub, ab, col, dd, k0, k1, k2, k3, k5, look, ov⟩ := T.cls
  have hcl : W.clsIn X.K C = some { name := nm, bases := bs, mro := .ref C :: bm, ns := N, qualname := q, hasDict := true, slotNames := sn, subclasses := sub, abstract := ab, collection := col, hasDel := false } := by
    unfold W.clsIn
    rw [look] <;> rfl
  obtain ⟨t1, ho⟩ := exo_at I.hok e
  obtain ⟨hp, g, d, t, os⟩ := s
  refine W.set_plain I.kIn (ox := { cls := .ref C, dict := none, data := .fields #[.ref t1, .none, .none, .none, .bool false, .none] }) (od := none) ⟨ho, rfl, rfl, trivial⟩ T.sa ?_
  refine set_first F I.kIn ho hcl ⟨bm, rfl, ov⟩ rfl hno (fun h' tk' dx k dn dne hx hn => ?_)
  have fresh : H dx = none := I.hok.fresh dn
  have far : ∀ {b : Addr} {o : Obj}, hp.get? b = some o → b ≠ dx := fun {b o} z => Nat.ne_of_lt (Nat.lt_of_lt_of_le (Heap.lt_size z) dn)
  have nota : ∀ {b : Addr}, H b = none → b ≠ a := fun {b} n z => by
    rw [z, e] at n
    cases n
  have U : Un X.fs [] H (upd (upd H dx (exd dx [(f, y)])) a (exo a C (some dx))) hp h' := {
    keep := fun b o z n _ _ => k b o (nota n) z
    slot := fun b o z n _ _ => ⟨o.slots, k b o (nota n) z⟩
    free := fun b o z n _ => by rw [upd_ne (nota n), upd_ne (far z)] <;> exact n
    there := fun b o z _ => by
      by_cases hb : b = a
      · exact ⟨_, hb ▸ hx⟩
      · exact ⟨o, k b o hb z⟩
    tups := fun b xs z => by rw [upd_ne (at_ne e z exo_tup), upd_ne (ne_of_none z fresh)] <;> exact z
    frzs := fun b o v z => by rw [upd_ne (at_ne e z exo_frz), upd_ne (ne_of_none z fresh)] <;> exact z
    tbls := fun b ps z => ⟨#[], by rw [upd_ne (at_ne e z exo_tbl), upd_ne (ne_of_none z fresh), z]; simp⟩ }
  refine h dx _ fresh dne (I.un (t' := tk') U fun b o z => ?_)
  by_cases hb : b = a
  · subst hb
    rw [upd_same] at z
    cases z
    exact exo_ok hx
  · rw [upd_ne hb] at z
    by_cases hd : b = dx
    · subst hd
      rw [upd_same] at z
      cases z
      exact exd_ok hn (relO_put (fs := []) ry fun g => True.intro)
    · rw [upd_ne hd] at z
      exact (I.hok b o z).stay (fun c v hc z => k c v (by
          rcases hc with hc | hc
          · rw [hc]
            exact hb
          · exact at_ne e hc exo_own) z)
        (fun c hc => by rw [upd_ne (at_ne e hc exo_own), upd_ne (ne_of_none hc fresh)] <;> exact hc) (fun c xs hc => by rw [upd_ne (at_ne e hc exo_tup), upd_ne (ne_of_none hc fresh)] <;> exact hc)
theorem base_ok {us : List Value} {Q : Value → Shared → Prop} {E : Value → Shared → Prop} (F : EF Bn Bi newId initId bB) (T : OexG X.K C newId bB) (I : Inv X pins σ H s) (e : H a = some (exo a C none)) (few : us.length ≤ sizeLine) (h : ∀ s', Inv X pins σ H s' → Q .none s') :
    wpAny (model X.prog X.w) A (call (.builtin initId) (.ref a :: us)) Q E s := by
  obtain ⟨nm, q, N, bs, bm, sn, sub, ab, col, dd, k0, k1, k2, k3, k5, look, ov⟩ := T.cls
  obtain ⟨t1, ho⟩ := exo_at I.hok e
  obtain ⟨hp, g, d, t, os⟩ := s
  refine wpAny_call (kw_base F (fun Y => over_has Y bm ov) (I.kIn _ _ look) ho few fun h' t2 k hx => ?_)
  have J := I.write (t' := t) (x := a) (e := a) (o := exo a C none) (by rw [e]; exact True.intro) (.inl rfl) k ⟨_, hx⟩ (exo_ok hx)
  have eu : upd H a (exo a C none) = H := by
    funext b
    by_cases hb : b = a
    · rw [hb, upd_same, e]
    · rw [upd_ne hb]
  rw [eu] at J
  exact h _ J
end
/-- B.__init__(self, ..) -/
def tBI (K : W.Frag) (newId : String) (bB : List Value) (ta : TA) : TE := fun σ H Q => ta σ H fun vs H1 => ∃ (a C : Addr) (ws : List V), vs = .ref a :: ws ∧ ws.length ≤ 1000 ∧ OexG K C newId bB ∧ H1 a = some (exo a C none) ∧ Q .non H1
/-- self.f = e, the first time -/
def tFirst (K : W.Frag) (f : Str) (newId : String) (bB : List Value) (to te : TE) : TS := fun D σ H => te σ H fun y H1 => to σ H1 fun x H2 => ∃ a C : Addr, x = .ref a ∧ OexG K C newId bB ∧ W.findIn K (.ref C) f = some none ∧
  H2 a = some (exo a C none) ∧ ∀ dx, H2 dx = none → dx ≠ a → D.nx σ (upd (upd H2 dx (exd dx [(f, y)])) a (exo a C (some dx)))
section
variable {X : Cx} {o e : Expr} {es : List Expr} {to te : TE} {ta : TA} {f : Str} {p p' p1 p2 pos : Pos} {Bn Bi newId initId : String} {bB : List Value}
theorem pe_baseinit {x : Str} {Bs : String} {pl : Sem Bool} (F : EF Bn Bi newId initId bB) (hg : Gl X x) (hm : X.mg x = none) (bx : bootBuiltins x = some (.type Bs)) (tx : typeOf (.type Bs) = pure (.type "type")) (vV : W.findCls X.K (.type Bs) (.type "type") "__init__" = some (.val (.builtin initId))) (stub : Manifest.isStub Bs = false) (hand : handedIn (.builtin initId) = true) (n0 : x ≠ ("__name__" : Str)) (ha : PA X (e :: es) ta)
    (hc : eval (.Call (.Attribute (.Name x p1) "__init__" p2) (e :: es) [] pos) X.env = (do
      let ov ← eval (.Name x p1) X.env
      standAt p2.atName
      let (g, before) ← holding [ov] (getMethod ov "__init__" pl)
      callWith pos g before (backTo pos (starEach (e :: es) X.env)) (backToKw pos (keywordEach [] X.env))) := by rfl)
    (he : starEach (e :: es) X.env = (false, eval e X.env) :: starEach es X.env := by rfl) (hpl : (backTo pos (starEach es X.env)).any (·.1) = false := by rfl) (n1 : (x == ("__debug__" : Str)) = false := by decide) :
    PE X (.Call (.Attribute (.Name x p1) "__init__" p2) (e :: es) [] pos) (tBI X.K newId bB ta) := by
  refine ⟨fun pins s σ H Q I h => ?_⟩
  refine W.methodCall_KW (ld_blt I hg hm bx ?_ n0 (by first | exact n1 | decide)) hc
  obtain ⟨m, fr⟩ := I.fr
  refine W.method_type fr I.ok.mod.kin tx stub vV hand ?_
  show wpAny _ _ (callWith pos (Value.builtin initId) [] (backTo pos (starEach (e :: es) X.env)) []) _ _ _
  refine PyProof.Rows.callWith_method1 (thn (ha.run pos pins _ σ H _ (I.tok _) h) fun us s1 ⟨vs, H1, I1, r1, a, C, ws, ev, few, T, ea, q⟩ => ?_) he hpl
  subst ev
  cases r1 with
  | @cons _ u0 _ ur ra rw' =>
    obtain rfl : u0 = Value.ref a := ra
    have small : ur.length ≤ sizeLine := by
      rw [← Paired.length rw', sizeLine_eq]
      omega
    exact base_ok F T I1 ea small fun s' J => ⟨.non, H1, J, rfl, q⟩
theorem ps_first (F : EF Bn Bi newId initId bB) (ho : PE X o to) (he : PE X e te) (hs : swapsWith e (some (.Attribute o f p')) pos.line X.env = pure false := by rfl) : PS X (.Assign [.Attribute o f p'] e pos) (tFirst X.K f newId bB to te) := by
  refine ⟨fun pins s σ H D I h => ?_⟩
  refine plainObj_wpAny_Assign_Attribute (thn (he.run pins s σ H _ I h) fun v s1 ⟨y, H1, I1, r1, q1⟩ => thn (ho.run pins s1 σ H1 _ I1 q1) fun u s2 ⟨x, H2, I2, r2, a, C, ex, T, hno, ea, q⟩ => ?_) hs
  subst ex
  obtain rfl : u = Value.ref a := r2
  exact field_ok F T I2 ea hno r1 fun dx s' n ne J => ⟨σ, _, J, q dx n ne⟩
end
end Vf

set_option Elab.async false
set_option linter.all false
set_option maxRecDepth 100000
set_option maxHeartbeats 4000000
/-! Exceptions as values: made by place, by name, without anything; their field; isinstance. -/
namespace Vf
open PySem PySem.Spec PyProof.Rows PySem.W PySem.Calls PySem.HandSPX L2
/-- an exception of the class at C stands at a -/
def XAt (H : Hp) (a C : Addr) : Prop := (∃ dx fs, H a = some (exo a C (some dx)) ∧ H dx = some (exd dx fs)) ∨ H a = some (ExO (.ref C) a)
/-- .. with its value -/
def XVal (H : Hp) (a C : Addr) (v : V) : Prop := ∃ dx, H a = some (exo a C (some dx)) ∧ H dx = some (exd dx [("value", v)])
theorem XVal.at_ {H : Hp} {a C : Addr} {v : V} (h : XVal H a C v) : XAt H a C := h.elim fun dx z => .inl ⟨dx, _, z.1, z.2⟩
theorem XVal.same {H H' : Hp} {a C : Addr} {v : V} (h : XVal H a C v) (S : Same H H') : XVal H' a C v := h.elim fun dx z => ⟨dx, S _ _ z.1, S _ _ z.2⟩
theorem XAt.same {H H' : Hp} {a C : Addr} (h : XAt H a C) (S : Same H H') : XAt H' a C := by
  rcases h with ⟨dx, fs, h1, h2⟩ | h
  · exact .inl ⟨dx, fs, S _ _ h1, S _ _ h2⟩
  · exact .inr (S _ _ h)
/-- the reading of C(..) as a value, its own __init__ keeping sp -/
def tNewX (C : Addr) (sp : Sp) (ta : TA) : TE := fun σ H Q => ta σ H fun vs H1 => vs.length ≤ 1000 ∧ ∀ a, H1 a = none → sp (.ref a :: vs) (upd H1 a (exo a C none)) (fun v H2 => v = .non ∧ Q (.ref a) H2) (fun _ _ _ => False)
/-- .. of C(value = ..) -/
def tNewK (C : Addr) (sp : Sp) (tk : TA) : TE := fun σ H Q => tk σ H fun zs H1 => zs.length = 1 ∧ ∀ a, H1 a = none → sp (.ref a :: zs) (upd H1 a (exo a C none)) (fun v H2 => v = .non ∧ Q (.ref a) H2) (fun _ _ _ => False)
section
variable {X : Cx} {CX : CXT} {x : Str} {C fI : Addr} {k : Nat} {fd : FuncData} {ps : List Str} {sp : Sp} {e : Expr} {es : List Expr} {ta : TA} {p pos : Pos} {Bn Bi newId initId : String} {bB : List Value}
theorem run_newX {pins : List (Addr × Obj)} {σ : L2.St} {H1 : Hp} {s1 : Shared} {Q : VK} {us full : List Value} {kw : List (Str × Value)} {vs : List V} (F : EF Bn Bi newId initId bB) (T : OexG X.K C newId bB) (at_ : findIn X.K (.ref C) "__init__" = some (some (.ref fI))) (ty : typeIn X.K (.ref fI) = some (.type "function")) (G : FnOk X.prog X.w X.K X.mg X.base CX k fI fd ps sp) (hr : Room (k + 1) X.A)
    (hx : Passes CX X (fun _ _ _ => False)) (few : us.length ≤ sizeLine) (I1 : Inv X pins σ H1 s1) (r1 : Vals vs full) (bb : ∀ (s : Shared) (self : Value), X.K.In s.heap → BindsTo s fd ⟨self :: us, kw⟩ (ps.zip (self :: full)))
    (q1 : ∀ a, H1 a = none → sp (.ref a :: vs) (upd H1 a (exo a C none)) (fun v H2 => v = .non ∧ Q (.ref a) H2) (fun _ _ _ => False)) :
    wpAny (model X.prog X.w) X.A (call (.ref C) us kw) (EP X pins σ Q) X.xe s1 := by
  obtain ⟨nm, q, N, bs, bm, sn, sub, ab, col, dd, k0, k1, k2, k3, k5, look, ov⟩ := T.cls
  obtain ⟨hp, gs, dr, tk, os⟩ := s1
  have new : H1 (hp.objs.size + 1) = none := I1.hok.fresh (Nat.le_succ _)
  have ask := q1 (hp.objs.size + 1) new
  have more : ∀ b o, hp.get? b = some o → ((hp.push (kdv_tup us)).push (HandSPX.excO C hp.objs.size)).get? b = some o := fun b o z => Heap.get?_push_of_some _ (Heap.get?_push_of_some _ z)
  have there : ((hp.push (kdv_tup us)).push (HandSPX.excO C hp.objs.size)).get? (hp.objs.size + 1) = some (HandSPX.excO C hp.objs.size) := by heap_get
  have I2 : Inv X pins σ (upd H1 (hp.objs.size + 1) (exo (hp.objs.size + 1) C none)) ⟨(hp.push (kdv_tup us)).push (HandSPX.excO C hp.objs.size), gs, dr, tk, os⟩ := I1.laid (t' := tk) (a := hp.objs.size + 1) (h' := (hp.push (kdv_tup us)).push (HandSPX.excO C hp.objs.size)) more (Nat.le_succ _) (exo_ok there)
  have r2 : Vals (V.ref (hp.objs.size + 1) :: vs) (Value.ref (hp.objs.size + 1) :: full) := .cons rfl r1
  have go := G.run _ X.stack _ _ ⟨Value.ref (hp.objs.size + 1) :: us, kw⟩ (Value.ref (hp.objs.size + 1) :: full) _ _ (fun _ _ _ => False) (hr.make C us kw) (I2.env0.make C us kw) (bb _ _ I2.kIn) r2 ask
  refine wpAny_call (kw_call F (fun Y => over_has Y bm ov) (I1.kIn _ _ look) (looks_findIn I1.kIn at_) (fun self => bind_fn I1.kIn self ty) few (codeAny_mono go fun r s' back => ?_))
  match r, back with
  | .error er, back => exact hx pins σ _ _ er s' I2 back
  | .ok (.ret u), back =>
    obtain ⟨v, H2, I3, rv, rfl, q2⟩ := I2.after back
    exact ⟨rv, .ref (hp.objs.size + 1), H2, I3, rfl, q2⟩
  | .ok .next, back => exact False.elim back
  | .ok .brk, back => exact False.elim back
  | .ok .cont, back => exact False.elim back
theorem pe_newX (F : EF Bn Bi newId initId bB) (T : OexG X.K C newId bB) (at_ : findIn X.K (.ref C) "__init__" = some (some (.ref fI))) (ty : typeIn X.K (.ref fI) = some (.type "function")) (G : FnOk X.prog X.w X.K X.mg X.base CX k fI fd ps sp) (hr : Room (k + 1) X.A) (hb : Binds X.K fd ps [])
    (hx : Passes CX X (fun _ _ _ => False)) (hg : Gl X x) (hm : X.mg x = some (.ref C)) (ha : PA X (e :: es) ta) (ndb : (x == ("__debug__" : Str)) = false := by decide) (st : starEach (e :: es) X.env = (false, eval e X.env) :: starEach es X.env := by rfl) (pl : (backTo pos (starEach es X.env)).any (·.1) = false := by rfl) :
    PE X (.Call (.Name x p) (e :: es) [] pos) (tNewX C sp ta) := by
  refine ⟨fun pins s σ H Q I h => ?_⟩
  refine wpAny_Call_Name_kw (ld_glob I hg hm (callWith_K (h₀ := X.base) I.ok.mod.kin T.kC (thn (ha.run pos pins s σ H _ I h) fun us s1 z => ?_) st pl) ndb)
  obtain ⟨vs, H1, I1, r1, few, q1⟩ := z
  have small : us.length ≤ sizeLine := by
    rw [← Paired.length r1, sizeLine_eq]
    omega
  refine ⟨I1.kIn, run_newX F T at_ ty G hr hx small I1 r1 (fun s self K1 => ?_) q1⟩
  have many : vs.length + 1 = ps.length := by
    have z := G.len _ _ _ _ (q1 (s1.heap.objs.size + 1) (I1.hok.fresh (Nat.le_succ _)))
    simpa using z
  have z := hb s (self :: us) K1 (by simp [← r1.length, many])
  rw [List.append_nil] at z
  exact z
theorem pe_newK {kws : List Keyword} {tk : TA} (F : EF Bn Bi newId initId bB) (T : OexG X.K C newId bB) (at_ : findIn X.K (.ref C) "__init__" = some (some (.ref fI))) (ty : typeIn X.K (.ref fI) = some (.type "function")) (G : FnOk X.prog X.w X.K X.mg X.base CX k fI fd ps sp) (hr : Room (k + 1) X.A)
    (hb : ∀ (s : Shared) (self u : Value), BindsTo s fd ⟨[self], [("value", u)]⟩ (ps.zip [self, u])) (hx : Passes CX X (fun _ _ _ => False)) (hg : Gl X x) (hm : X.mg x = some (.ref C)) (hkw : PK X kws tk)
    (hall : (backToKw pos (keywordEach kws X.env)).all (·.1.isSome) = true := by rfl) (hks : (backToKw pos (keywordEach kws X.env)).filterMap (·.1) = [("value" : Str)] := by rfl) (ndb : (x == ("__debug__" : Str)) = false := by decide)
    (pl : ((backTo pos (starEach [] X.env)).any (·.1) || (backToKw pos (keywordEach kws X.env)).any (·.1.isNone)) = false := by rfl) :
    PE X (.Call (.Name x p) [] kws pos) (tNewK C sp tk) := by
  refine ⟨fun pins s σ H Q I h => ?_⟩
  refine wpAny_Call_Name_kw (ld_glob I hg hm ?_ ndb)
  refine W.callWith_KW0 (h₀ := X.base) I.ok.mod.kin T.kC hall ?_ pl
  refine thn (hkw.run pos pins s σ H _ I h) fun ws s2 ⟨zs, H2, I2, rz, l1, q2⟩ => ⟨I2.kIn, ?_⟩
  rw [hks]
  have lw : ws.length = 1 := rz.length.symm.trans l1
  match ws, lw, rz with
  | [u], _, rz => exact run_newX (us := []) (full := [u]) (kw := [("value", u)]) F T at_ ty G hr hx (Nat.zero_le _) I2 rz (fun s self _ => hb s self u) q2
/-- C(), C without an own __init__ -/
theorem pe_new0 {B : String} {bmB : List Value} (F : ExcBaseFacts B newId initId bmB) (q : excIn X.K C bmB newId = true) (gC : X.mg x = some (.ref C)) (kC : keepIn X.K (.ref C) = true) (hg : Gl X x) (ndb : (x == ("__debug__" : Str)) = false := by decide) :
    PE X (.Call (.Name x p) [] [] pos) (fun _ H Q => ∀ a, H a = none → Q (.ref a) (upd H a (ExO (.ref C) a))) := by
  refine ⟨fun pins s σ H Q I h => wpAny_Call_Name_kw (ld_glob I hg gC (callWith_K0 I.kIn kC (show wpAny _ _ (call (.ref C) []) _ _ _ from ?_)) ndb)⟩
  obtain ⟨bm, N, nm, qn, bs, hdct, sn, sub, ab, col, dd, k0, k1, k2, k3, k5, mN, hC, hN, hni, T⟩ := exc_obj I.kIn q
  refine wpAny_call_exc_subT F T hC hN hni (fun h' a hm => ?_) (by show 0 ≤ sizeLine; exact Nat.zero_le _)
  have new : H a = none := I.hok.gone hm.new
  obtain ⟨t, ht, _, _⟩ := hm.there
  exact ⟨.ref a, _, I.laidN hm.keeps hm.new new (exO_ok ht ⟨rfl, rfl⟩ rfl rfl rfl (show 4 < 6 by decide)), rfl, h a new⟩
end
/-! ### its field -/
def tXv (K : Frag) (n : Str) (te : TE) : TE := fun σ H Q => te σ H fun x H1 => ∃ (a C dx : Addr) (fs : List (Str × V)) (v : V), x = .ref a ∧ XfC K C ∧ findIn K (.ref C) n = some none ∧ H1 a = some (exo a C (some dx)) ∧ H1 dx = some (exd dx fs) ∧ fs.lookup n = some v ∧ Q v H1
theorem pe_xv {X : Cx} {e : Expr} {te : TE} {pos : Pos} {n : Str} (he : PE X e te) (hb : attributeBase e n X.env (eval e X.env) = eval e X.env := by rfl) : PE X (.Attribute e n pos) (tXv X.K n te) := by
  refine ⟨fun pins s σ H Q I h => attr_of hb (thn (he.run pins s σ H _ I h) fun u s1 z => ?_)⟩
  obtain ⟨x, H1, I1, rx, a, C, dx, fs, v, ex, T, hno, ea, ed, l, q⟩ := z
  subst ex
  obtain rfl : u = Value.ref a := rx
  obtain ⟨t1, ho⟩ := exo_at I1.hok ea
  obtain ⟨mA, hns, hr⟩ := exd_at I1.hok ed
  obtain ⟨od, hd, hl⟩ := lookIn_ns hns
  obtain ⟨u, hu, ru⟩ := RelO.some_of (v := v) (o := mA n) (by rw [← l]; exact hr n)
  have J : InstAt s1.heap a _ C (some od) := ⟨ho, rfl, rfl, hd⟩
  exact HandSPX.exc_get I1.kIn J T.ga T.gg T.exC (findObj_own T.hdC hno rfl (by rw [hl, hu])) (handed_of ru) ⟨v, H1, I1.tok _, ru, q⟩
/-! ### isinstance -/
def rIsX (K : Frag) : List V → Hp → VK → Prop := fun xs H Q => ∃ (a C : Addr) (c : V) (u : Value) (b : Bool), xs = [.ref a, c] ∧ ClsV c u ∧ ExcC K C ∧ XAt H a C ∧ kitOne K (.ref C) u = some b ∧ Q (.bl b) H
theorem call_isX {X : Cx} : CallR X (.builtin "isinstance") (rIsX X.K) := by
  intro pins s σ H xs us Q I r h
  obtain ⟨a, C, c, u, b, rfl, k, D, at_, e, q⟩ := h
  obtain ⟨u1, u2, rfl, r1, r2⟩ := vals2 r
  have e2 := k.eq r2
  subst e2
  obtain rfl : u1 = Value.ref a := r1
  have cl : (clsIn X.K C).isSome = true := by
    obtain ⟨cd, hc, _⟩ := any_some D.hd
    rw [hc] <;> rfl
  have go : ∀ {ox : Obj} {od : Option Obj}, InstAt s.heap a ox C od → wpAny (model X.prog X.w) X.A (call (.builtin "isinstance") [.ref a, u2]) (EP X pins σ Q) X.xe s := fun {ox od} J =>
    kia_one (kitx_exc cl D.hg D.hk D.hs D.ha D.hn D.ht D.hm) I.kIn J e (fun z => nomatch z) fun tk => ⟨.bl b, H, I.tok tk, rfl, q⟩
  rcases at_ with ⟨dx, fs, ea, ed⟩ | ea
  · obtain ⟨t1, ho⟩ := exo_at I.hok ea
    obtain ⟨mA, hns, hr⟩ := exd_at I.hok ed
    obtain ⟨od, hd, hl⟩ := lookIn_ns hns
    exact go (od := some od) ⟨ho, rfl, rfl, hd⟩
  · obtain ⟨⟨oe, vs, ho, hz, hd, _⟩, _, _⟩ := I.hok a _ ea
    obtain ⟨oc, od, oda, osl⟩ := oe
    obtain ⟨h1, h2⟩ := hz
    dsimp only at h1 h2 hd
    subst h1 h2 hd
    exact go (od := none) ⟨ho, rfl, rfl, trivial⟩
end Vf

set_option Elab.async false
set_option linter.all false
set_option maxRecDepth 100000
/-! The built-in classes that lie under own ones. -/
namespace Vf
open PySem PySem.Spec PyProof.Rows PySem.W PySem.Calls PySem.HandSPX
theorem ef_of {B newId initId : String} {bB : List Value} (F : ExcBaseFacts B newId initId bB) (o : bB.contains (.type "object") = true) (ps : ∀ self, refuseLoop self "__setattr__" bB = pure ()) : EF B B newId initId bB where
  ends := F.ends
  owner := F.owner
  entry := F.entry
  quiet := F.quiet
  nSplit := F.newSplit
  nKind := F.newKind
  nRow := F.newRow
  plain := F.init.plain
  iEntry := F.initEntry
  iSplit := F.initSplit
  iKind := F.initKind
  iRow := F.initRow
  hasN := F.hasB
  hasI := F.hasB
  noAttr := F.noAttr
  noName := F.noName
  canon := F.canon
  starN := F.noStar
  starI := F.noStar
  obj := o
  pass := ps
abbrev bbV : List Value := [.type "ValueError", .type "Exception", .type "BaseException", .type "object"]
abbrev bbR : List Value := [.type "RuntimeError", .type "Exception", .type "BaseException", .type "object"]
abbrev bbO : List Value := [.type "OverflowError", .type "ArithmeticError", .type "Exception", .type "BaseException", .type "object"]
abbrev bbK : List Value := [.type "KeyError", .type "LookupError", .type "Exception", .type "BaseException", .type "object"]
abbrev bbI : List Value := [.type "IndexError", .type "LookupError", .type "Exception", .type "BaseException", .type "object"]
theorem efV : EF "ValueError" "ValueError" "ValueError.__new__" "ValueError.__init__" bbV := ef_of PySem.F.excBase_ValueError (by decide +kernel) (fun self => by kernel_rfl)
theorem efR : EF "RuntimeError" "RuntimeError" "RuntimeError.__new__" "RuntimeError.__init__" bbR := ef_of PySem.F.excBase_RuntimeError (by decide +kernel) (fun self => by kernel_rfl)
theorem efO : EF "OverflowError" "OverflowError" "OverflowError.__new__" "OverflowError.__init__" bbO := ef_of PySem.F.excBase_OverflowError (by decide +kernel) (fun self => by kernel_rfl)
theorem efK : EF "LookupError" "KeyError" "LookupError.__new__" "KeyError.__init__" bbK :=
  have L := PySem.F.excBase_LookupError
  have Y := excClass_KeyError
  { ends := L.ends, owner := L.owner, entry := L.entry, quiet := L.quiet, nSplit := L.newSplit, nKind := L.newKind, nRow := L.newRow, plain := Y.init.plain, iEntry := Y.initEntry, iSplit := Y.initSplit, iKind := Y.initKind, iRow := Y.initSig
    hasN := by decide +kernel
    hasI := by decide +kernel
    noAttr := by decide +kernel
    noName := by decide +kernel
    canon := L.canon, starN := L.noStar, starI := Y.notStar
    obj := by decide +kernel
    pass := fun self => by kernel_rfl }
end Vf

set_option Elab.async false
set_option linter.all false
set_option maxRecDepth 100000
set_option maxHeartbeats 4000000
/-! What makes exceptions that keep one value. -/
namespace Vf
open PySem PySem.Spec PyProof.Rows PySem.W PySem.Calls L2
/-- the promise of an __init__ that keeps its value -/
def spIniG (K : Frag) (newId : String) (bB : List Value) : Sp := fun vs H Q _ => ∃ (a C : Addr) (v : V), vs = [.ref a, v] ∧ OexG K C newId bB ∧ findIn K (.ref C) "value" = some none ∧ H a = some (exo a C none) ∧ ∀ dx, H dx = none → dx ≠ a → Q .non (upd (upd H dx (exd dx [("value", v)])) a (exo a C (some dx)))
/-- x makes exceptions of the class at C, each with its value -/
structure XMk (P : Program) (w : World) (K : Frag) (mg : Str → Option Value) (base : Heap) (x : Str) (C : Addr) (k : Nat) : Prop where
  made : ∃ Bn Bi newId initId bB fI fd, EF Bn Bi newId initId bB ∧ OexG K C newId bB ∧ findIn K (.ref C) "__init__" = some (some (.ref fI)) ∧ typeIn K (.ref fI) = some (.type "function") ∧ FnOk P w K mg base CX0 k fI fd ["self", "value"] (spIniG K newId bB) ∧ Binds K fd ["self", "value"] [] ∧ (∀ (s : Shared) (self u : Value), BindsTo s fd ⟨[self], [("value", u)]⟩ ((["self", "value"] : List Str).zip [self, u]))
  gl : mg x = some (.ref C)
  vl : findIn K (.ref C) "value" = some none
  xf : XfC K C
  xc : ExcC K C
theorem XMk.mono {P : Program} {w : World} {K : Frag} {mg : Str → Option Value} {base : Heap} {x : Str} {C : Addr} {k m : Nat} (M : XMk P w K mg base x C k) (h : k ≤ m) : XMk P w K mg base x C m := by
  obtain ⟨a, b, c, d, e, f, g, h1, h2, h3, h4, h5, h6, h7⟩ := M.made
  exact ⟨⟨a, b, c, d, e, f, g, h1, h2, h3, h4, h5.mono h, h6, h7⟩, M.gl, M.vl, M.xf, M.xc⟩
theorem made_same {H1 : Hp} {a dx C : Addr} {v : V} (ha : H1 a = none) (hd : H1 dx = none) (ne : dx ≠ a) : Same H1 (upd (upd (upd H1 a (exo a C none)) dx (exd dx [("value", v)])) a (exo a C (some dx))) ∧ XVal (upd (upd (upd H1 a (exo a C none)) dx (exd dx [("value", v)])) a (exo a C (some dx))) a C v := by
  refine ⟨fun b o e => ?_, dx, upd_same, ?_⟩
  · rw [upd_ne (ne_of_none e ha), upd_ne (ne_of_none e hd), upd_ne (ne_of_none e ha)]
    exact e
  · rw [upd_ne ne, upd_same]
/-- the reading of C(e), C(value = e) -/
def tMkV (C : Addr) (te : TE) : TE := fun σ H Q => te σ H fun v H1 => ∀ a H2, Same H1 H2 → XVal H2 a C v → Q (.ref a) H2
section
variable {X : Cx} {x : Str} {C : Addr} {k : Nat} {e : Expr} {te : TE} {p pos kpos : Pos}
theorem pe_mkV (M : XMk X.prog X.w X.K X.mg X.base x C k) (hr : Room (k + 1) X.A) (hg : Gl X x) (he : PE X e te) (ndb : (x == ("__debug__" : Str)) = false := by decide) (st : starEach [e] X.env = (false, eval e X.env) :: starEach [] X.env := by rfl) (pl : (backTo pos (starEach [] X.env)).any (·.1) = false := by rfl) :
    PE X (.Call (.Name x p) [e] [] pos) (tMkV C te) := by
  obtain ⟨Bn, Bi, newId, initId, bB, fI, fd, F, T, at_, ty, G, hb, hk⟩ := M.made
  refine ⟨fun pins s σ H Q I h => ?_⟩
  refine wpAny_Call_Name_kw (ld_glob I hg M.gl (callWith_K (h₀ := X.base) I.ok.mod.kin T.kC (thn ((pa_cons he pa_nil (hs := st)).run pos pins s σ H (fun vs H1 => match vs with | [v] => ∀ a H2, Same H1 H2 → XVal H2 a C v → Q (.ref a) H2 | _ => False) I h) fun us s1 z => ?_) st pl) ndb)
  obtain ⟨vs, H1, I1, r1, q1⟩ := z
  match vs, r1, q1 with
  | [v], r1, q1 =>
    obtain ⟨u, rfl, rv⟩ := vals1 r1
    refine ⟨I1.kIn, run_newX F T at_ ty G hr pass0 (show 1 ≤ sizeLine by decide) I1 (vs := [v]) (.cons rv .nil) (fun s self K1 => ?_) fun a ha => ⟨a, C, v, rfl, T, M.vl, upd_same, fun dx hdx ne => ?_⟩⟩
    · have z := hb s [self, u] K1 rfl
      rwa [List.append_nil] at z
    · rw [upd_ne ne] at hdx
      obtain ⟨S, xv⟩ := made_same (C := C) (v := v) ha hdx ne
      exact ⟨rfl, q1 a _ S xv⟩
theorem pe_mkK (M : XMk X.prog X.w X.K X.mg X.base x C k) (hr : Room (k + 1) X.A) (hg : Gl X x) (he : PE X e te) (ndb : (x == ("__debug__" : Str)) = false := by decide)
    (all_ : (backToKw pos (keywordEach [⟨some "value", e, kpos⟩] X.env)).all (·.1.isSome) = true := by rfl) (named : (backToKw pos (keywordEach [⟨some "value", e, kpos⟩] X.env)).filterMap (·.1) = [("value" : Str)] := by rfl)
    (pl : ((backTo pos (starEach [] X.env)).any (·.1) || (backToKw pos (keywordEach [⟨some "value", e, kpos⟩] X.env)).any (·.1.isNone)) = false := by rfl) :
    PE X (.Call (.Name x p) [] [⟨some "value", e, kpos⟩] pos) (tMkV C te) := by
  obtain ⟨Bn, Bi, newId, initId, bB, fI, fd, F, T, at_, ty, G, hb, hk⟩ := M.made
  refine ⟨fun pins s σ H Q I h => ?_⟩
  refine wpAny_Call_Name_kw (ld_glob I hg M.gl ?_ ndb)
  refine W.callWith_KW0 (h₀ := X.base) I.ok.mod.kin T.kC all_ ?_ pl
  refine thn ((pk_cons he pk_nil).run pos pins s σ H (fun vs H1 => match vs with | [v] => ∀ a H2, Same H1 H2 → XVal H2 a C v → Q (.ref a) H2 | _ => False) I h) fun ws s2 z => ?_
  obtain ⟨zs, H2, I2, rz, q1⟩ := z
  refine ⟨I2.kIn, ?_⟩
  rw [named]
  match zs, rz, q1 with
  | [v], rz, q1 =>
    obtain ⟨u, rfl, rv⟩ := vals1 rz
    refine run_newX (us := []) (full := [u]) (kw := [("value", u)]) F T at_ ty G hr pass0 (Nat.zero_le _) I2 (vs := [v]) (.cons rv .nil) (fun s self _ => hk s self u) fun a ha => ⟨a, C, v, rfl, T, M.vl, upd_same, fun dx hdx ne => ?_⟩
    rw [upd_ne ne] at hdx
    obtain ⟨S, xv⟩ := made_same (C := C) (v := v) ha hdx ne
    exact ⟨rfl, q1 a _ S xv⟩
end
end Vf

set_option Elab.async false
set_option linter.all false
set_option maxRecDepth 100000
/-! Operators, truth and reading off the class for instances of a class of the text. -/
namespace Vf
open PySem PySem.Spec PyProof.Rows L2 PySem.W

/-- an own method of special name -/
structure Own (K : Frag) (C : Addr) (name : PySem.Str) (f : Addr) : Prop where
  at_ : findIn K (.ref C) name = some (some (.ref f))
  fn : isFn K (.ref f) = true
section
variable {X : Cx} {CX : CXT} {n : Nat} {f g C p : Addr} {sp : Sp} {E : XK} {pins : List (Addr × Obj)} {σ : L2.St} {H : Hp} {s : Shared}
theorem run_at {A : Around} {Q : VK} {us : List Value} {vs : List V} (F : FnR X.prog X.w X.K X.mg X.base CX n f sp) (sb : Sub X n A) (hx : Passes CX X E) (I : Inv X pins σ H s) (r : Vals vs us) (h : sp vs H Q E) :
    wpAny (model X.prog X.w) A (call (.ref f) us) (EP X pins σ Q) X.xe s := by
  have e0 : Env0 X.prog X.w X.K X.mg X.base A X.stack s H := by
    have e := I.env0
    exact ⟨by rw [sb.fr]; exact e.frames, e.mod, e.bs, e.bsz, e.funs, e.frf, e.hok, e.bare⟩
  refine wpAny_call (codeAny_mono (F A X.stack s H us vs Q E sb.room e0 r h) fun z s' hq => ?_)
  cases z with
  | error e => exact hx pins σ H s e s' I hq
  | ok fl =>
    cases fl with
    | ret u => exact I.after hq
    | next => exact False.elim hq
    | brk => exact False.elim hq
    | cont => exact False.elim hq
theorem relV_ni : ∀ {x : V}, ¬ RelV x .notImplemented
  | .non, h => nomatch h
  | .bl _, h => nomatch h
  | .int _, ⟨_, h⟩ => nomatch h
  | .str _, ⟨_, h⟩ => nomatch h
  | .byt _, ⟨_, h⟩ => nomatch h
  | .flt _, ⟨_, h⟩ => nomatch h
  | .ref _, h => nomatch h
  | .ty _, h => nomatch h
theorem back_of {Q : VK} {z : Value} {s' : Shared} (h : EP X pins σ Q z s') : W.CmpBack (EP X pins σ Q) z s' := by
  cases z <;> first | exact h | (obtain ⟨_, _, _, r, _⟩ := h; exact absurd r relV_ni)
/-- an object of the class at C -/
def Ins (H : Hp) (C a : Addr) : Prop := ∃ dx fs, H a = some (.ins C dx fs)
theorem Ins.same {H H' : Hp} {C a : Addr} (s : ∀ b u, H b = some u → H' b = some u) (h : Ins H C a) : Ins H' C a := let ⟨d, fs, e⟩ := h; ⟨d, fs, s _ _ e⟩
theorem ins_at {a : Addr} (I : Inv X pins σ H s) (h : Ins H C a) : ∃ ox od, InstAt s.heap a ox C od ∧ ox.data = .plain := StX.insC_at I (.inr h)
/-- a | b and the like, both of the class at C -/
def rBinO (C : Addr) (sp : Sp) (E : XK) : R2 := fun x y H Q => ∃ a b, x = .ref a ∧ y = .ref b ∧ Ins H C a ∧ Ins H C b ∧ sp [.ref a, .ref b] H Q E
theorem op_binO {op : Operator} (c : Own X.K C (PySem.dunder op.info.2) f) (sf : selfFirst X.K C = true) (F : FnR X.prog X.w X.K X.mg X.base CX n f sp) (hr : Room n X.A) (hx : Passes CX X E) : OpR X (binaryOp op) (rBinO C sp E) := by
  intro pins s σ H x y v u Q I rx ry h
  obtain ⟨a, b, rfl, rfl, ia, ib, q⟩ := h
  obtain rfl : v = Value.ref a := rx
  obtain rfl : u = Value.ref b := ry
  obtain ⟨ox, od, J, _⟩ := ins_at I ia
  obtain ⟨ox', od', J', _⟩ := ins_at I ib
  obtain ⟨m, fr⟩ := I.fr
  refine binop_K fr I.ok.mod.kin J J'.type sf c.at_ c.fn (thn (run_at (us := [.ref a, .ref b]) (vs := [.ref a, .ref b]) F ⟨hr, rfl⟩ hx I (.cons rfl (.cons rfl .nil)) q) ?_)
  exact fun z s' hz => back_of hz
/-- a in b, b of the class at C -/
def rInO (C : Addr) (neg : Bool) (sp : Sp) (E : XK) : R2 := fun x y H Q => ∃ b, y = .ref b ∧ Ins H C b ∧ sp [.ref b, x] H (fun v H' => ∃ k, v = .bl k ∧ Q (.bl (k != neg)) H') E
theorem op_inO (c : Own X.K C "__contains__" f) (F : FnR X.prog X.w X.K X.mg X.base CX n f sp) (hr : Room n X.A) (hx : Passes CX X E) : OpR X (compareOp .In) (rInO C false sp E) := by
  intro pins s σ H x y v u Q I rx ry h
  obtain ⟨b, rfl, ib, q⟩ := h
  obtain rfl : u = Value.ref b := ry
  obtain ⟨ox, od, J, _⟩ := ins_at I ib
  obtain ⟨m, fr⟩ := I.fr
  refine in_K fr I.ok.mod.kin J c.at_ c.fn (thn (run_at (us := [.ref b, v]) (vs := [.ref b, x]) F ⟨hr, rfl⟩ hx I (.cons rfl (.cons rx .nil)) q) ?_)
  intro z s' hz
  obtain ⟨zv, H', I', rz, k, rfl, qz⟩ := hz
  obtain rfl : z = .bool k := rz
  rw [Bool.bne_false] at qz
  exact wpAny_truthy_bool ⟨.bl k, H', I', rfl, qz⟩
/-- ~a -/
def rInvO (C : Addr) (sp : Sp) (E : XK) : V → Hp → VK → Prop := fun x H Q => ∃ a, x = .ref a ∧ Ins H C a ∧ sp [.ref a] H Q E
theorem un_invO (c : Own X.K C "__invert__" f) (F : FnR X.prog X.w X.K X.mg X.base CX n f sp) (hr : Room n X.A) (hx : Passes CX X E) : UnR X (unaryOp .Invert) (rInvO C sp E) := by
  intro pins s σ H x v Q I rx h
  obtain ⟨a, rfl, ia, q⟩ := h
  obtain rfl : v = Value.ref a := rx
  obtain ⟨ox, od, J, _⟩ := ins_at I ia
  obtain ⟨m, fr⟩ := I.fr
  exact ksp_inv fr I.ok.mod.kin J c.at_ c.fn (run_at (us := [.ref a]) (vs := [.ref a]) F ⟨hr, rfl⟩ hx I (.cons rfl .nil) q)
/-- truth of an object by its own __bool__ -/
def rTruO (C : Addr) (sp : Sp) (E : XK) : V → Hp → (Bool → Hp → Prop) → Prop := fun x H Q => ∃ a, x = .ref a ∧ Ins H C a ∧ sp [.ref a] H (fun v H' => ∃ k, v = .bl k ∧ Q k H') E
theorem tru_O (c : Own X.K C "__bool__" f) (F : FnR X.prog X.w X.K X.mg X.base CX n f sp) (hr : Room n X.A) (hx : Passes CX X E) : TruR X (rTruO C sp E) := by
  intro pins s σ H x v Q I rx h
  obtain ⟨a, rfl, ia, q⟩ := h
  obtain rfl : v = Value.ref a := rx
  obtain ⟨ox, od, J, _⟩ := ins_at I ia
  obtain ⟨m, fr⟩ := I.fr
  have go : wpAny (model X.prog X.w) X.A (call (.ref f) [.ref a]) (fun v s' => ∃ k H', v = .bool k ∧ Inv X pins σ H' s' ∧ Q k H') X.xe s := by
    refine thn (run_at (us := [.ref a]) (vs := [.ref a]) F ⟨hr, rfl⟩ hx I (.cons rfl .nil) q) ?_
    intro z s' hz
    obtain ⟨zv, H', I', rz, k, rfl, qz⟩ := hz
    exact ⟨k, H', rz, I', qz⟩
  unfold truthy
  have two : wpAny (model X.prog X.w) X.A (callSpecial? (.ref a) (PySem.Str.ofString "__bool__")) (fun r s' => ∃ k H', r = some (.bool k) ∧ Inv X pins σ H' s' ∧ Q k H') X.xe s :=
    special_fn I.kIn J c.at_ (beq_iff_eq.mp c.fn) (thn go fun z s' ⟨k, H', e, I', q⟩ => ⟨k, H', by rw [e], I', q⟩)
  refine wpAny_bind (m := callSpecial? (.ref a) (PySem.Str.ofString "__bool__")) (thn two ?_)
  intro r s' hz
  obtain ⟨k, H', rfl, I', q⟩ := hz
  exact wpAny_pure ⟨H', I', q⟩
/-- a == b, both of the class at C, by its own __eq__ -/
def rEqO (C : Addr) (neg : Bool) (sp : Sp) (E : XK) : R2 := fun x y H Q => ∃ a b, x = .ref a ∧ y = .ref b ∧ Ins H C a ∧ Ins H C b ∧ sp [.ref a, .ref b] H (fun v H' => ∃ k, v = .bl k ∧ Q (.bl (k != neg)) H') E
theorem op_eqO (c : Own X.K C "__eq__" f) (F : FnR X.prog X.w X.K X.mg X.base CX n f sp) (hr : Room n X.A) (hx : Passes CX X E) : OpR X (compareOp .Eq) (rEqO C false sp E) := by
  intro pins s σ H x y v u Q I rx ry h
  obtain ⟨a, b, rfl, rfl, ia, ib, q⟩ := h
  obtain rfl : v = Value.ref a := rx
  obtain rfl : u = Value.ref b := ry
  obtain ⟨ox, od, J, _⟩ := ins_at I ia
  obtain ⟨ox', od', J', _⟩ := ins_at I ib
  obtain ⟨m, fr⟩ := I.fr
  show wpAny _ _ (richCompare .Eq (.ref a) (.ref b)) _ _ _
  refine cmp_K (op := .Eq) (tb := .ref C) hr.units0 fr I.ok.mod.kin J J'.type (by simp [notFirst]) c.at_ c.fn (thn (run_at (us := [.ref a, .ref b]) (vs := [.ref a, .ref b]) F ⟨hr, rfl⟩ hx I (.cons rfl (.cons rfl .nil)) q) ?_)
  intro z s' hz
  obtain ⟨zv, H', I', rz, k, rfl, qz⟩ := hz
  obtain rfl : z = .bool k := rz
  rw [Bool.bne_false] at qz
  exact (⟨.bl k, H', I', rfl, qz⟩ : EP X pins σ Q (.bool k) s')
theorem ifBound_B {M : Model} {A : Around} {E : Value → Shared → Prop} {s : Shared} {K : Frag} {x C : Addr} {ox : Obj} {od : Option Obj} {name : PySem.Str} {id : String} {args : List Value} {Q : Option Value → Shared → Prop} (X : K.In s.heap) (I : InstAt s.heap x ox C od) (hs : findIn K (.ref C) name = some (some (.builtin id)))
    (hb : ∀ self, bindSpecial (.builtin id) self = pure (.builtin id, [self])) (h : wpAny M A (call (.builtin id) (.ref x :: args)) (fun v => Q (some v)) E s) : wpAny M A (callSpecialIfBound? (.ref x) name args) Q E s := by
  simp only [callSpecialIfBound?, bindSpecialIfBound?]
  refine wpAny_holding (wpAny_bind (wpAny_bind (wpAny_bind (I.type.here ((looks_findIn X hs).here ?_)))))
  refine wpAny_bind (wpAny_askSetting (wpAny_ite ?_))
  have fin : wpAny M A (call (.builtin id) ([.ref x] ++ args) >>= fun v => pure (some v)) Q E s := wpAny_bind (wpAny_mono h (fun v s' h' => wpAny_pure h') fun _ _ h' => h')
  split
  · exact wpAny_bind ((Looks.of_pure (hb _)).here (wpAny_pure (by exact fin)))
  · exact wpAny_tryCatch (wpAny_bind ((Looks.of_pure (hb _)).here (wpAny_pure (by exact fin))))
/-- != where the class has its own __eq__ and no __ne__ -/
structure NoNe (K : Frag) (C : Addr) : Prop where
  ne : findIn K (.ref C) "__ne__" = some (some (.builtin "object.__ne__"))
  mro : mroIn K C (.type "object") = some true
open Builtin in
theorem ne_entry {prog : Program} {w : World} {A : Around} {E : Value → Shared → Prop} {s : Shared} {K : Frag} {x y C f : Addr} {ox : Obj} {od : Option Obj} {Q : Fin → Shared → Prop} (hu : A.units < cLine) (Z : K.In s.heap) (I : InstAt s.heap x ox C od) (c : Own K C "__eq__" f)
    (h : wpAny (model prog w) A (call (.ref f) [.ref x, .ref y]) (fun v s' => ∃ b, v = .bool b ∧ Q (.done (.ret (.bool (!b)))) s') E s) : wpAny (model prog w) A (Builtin.«object.__ne__» ⟨[.ref x, .ref y], []⟩) Q E s := by
  unfold Builtin.«object.__ne__»
  refine wpAny_bind (m := slotArgs "__ne__" 1 _) (wpAny_pure ?_)
  refine wpAny_bind (m := cRoomFor _ _) (wpAny_cRoomFor hu ?_)
  refine wpAny_bind (m := callSpecialIfBound? (.ref x) (PySem.Str.ofString "__eq__") _) (ifBound_K Z I c.at_ c.fn (thn h ?_))
  rintro v s' ⟨b, rfl, q⟩
  exact wpAny_bind (wpAny_truthy_bool (wpAny_pure q))
theorem op_neO (c : Own X.K C "__eq__" f) (d : NoNe X.K C) (F : FnR X.prog X.w X.K X.mg X.base CX n f sp) (hr : Room (n + 1) X.A) (hx : Passes CX X E) : OpR X (compareOp .NotEq) (rEqO C true sp E) := by
  intro pins s σ H x y v u Q I rx ry h
  obtain ⟨a, b, rfl, rfl, ia, ib, q⟩ := h
  obtain rfl : v = Value.ref a := rx
  obtain rfl : u = Value.ref b := ry
  obtain ⟨ox, od, J, _⟩ := ins_at I ia
  obtain ⟨ox', od', J', _⟩ := ins_at I ib
  show wpAny _ _ (richCompare .NotEq (.ref a) (.ref b)) _ _ _
  unfold richCompare
  simp only [oneThing_ref]
  refine wpAny_holding (wpAny_bind (wpAny_cRoomFor hr.units0 ?_))
  refine wpAny_bind (J.type.here (wpAny_bind (J'.type.here ?_)))
  rw [show (Value.ref C != Value.ref C) = false from by simp]
  simp only [Bool.false_eq_true, if_false]
  refine wpAny_bind (wpAny_pure ?_)
  simp only [Bool.false_eq_true, if_false]
  have go : wpAny (model X.prog X.w) X.A (tryCompare (.ref a) "__ne__" (.ref b)) (fun r s' => ∃ z, r = some z ∧ EP X pins σ Q z s') X.xe s := by
    unfold tryCompare
    refine wpAny_bind (ifBound_B (id := "object.__ne__") I.kIn J d.ne PySem.F.slot_object_ne.bind ?_)
    refine wpAny_call (codeAny_call_builtin PySem.F.slot_object_ne.plain PySem.F.cmpEntry_ne (check_slot (i := "object.__ne__") (owner := "object") (n := "__ne__") (by decide +kernel) (by decide +kernel) (J.type.andThen (looks_mroIn I.kIn d.mro)) (PySem.F.cmpArgs_ne _ _) ?_))
    refine ne_entry hr.in1.units0 I.kIn J c (thn (run_at (us := [.ref a, .ref b]) (vs := [.ref a, .ref b]) F ⟨hr.in1, rfl⟩ hx I (.cons rfl (.cons rfl .nil)) q) ?_)
    intro z s' hz
    obtain ⟨zv, H', I', rz, k, rfl, qz⟩ := hz
    obtain rfl : z = .bool k := rz
    refine ⟨k, rfl, ?_⟩
    have e : (k != true) = !k := by cases k <;> rfl
    rw [e] at qz
    exact wpAny_pure ⟨.bool (!k), rfl, .bl (!k), H', I', rfl, qz⟩
  refine wpAny_bind (thn go ?_)
  rintro r s' ⟨z, rfl, q⟩
  exact wpAny_pure q
/-- C.m, a staticmethod: its record at p, its def at g -/
structure CSta (K : Frag) (C : Addr) (mc : Value) (m : PySem.Str) (p g : Addr) : Prop where
  at_ : findCls K (.ref C) mc m = some (.get (.builtin "staticmethod.__get__") (.ref p) .none (.ref C))
  rc : ∃ rest, recIn K p "staticmethod" = some (.ref g :: rest)
  kp : keepIn K (.ref g) = true
theorem getmethsm_ok {mc : Value} {m : PySem.Str} {pl : Sem Bool} {A : Around} {E' : Value → Shared → Prop} {Q : Value × List Value → Shared → Prop} (I : Inv X pins σ H s) (r : ClX.CRead X.K C mc) (k : CSta X.K C mc m p g)
    (h : ∀ s', Inv X pins σ H s' → Q (.ref g, []) s') : wpAny (model X.prog X.w) A (getMethod (.ref C) m pl) Q E' s := by
  obtain ⟨rest, hp⟩ := k.rc
  refine method_cls I.kIn r.ga (cls_bind I.kIn r.rd k.at_ ?_)
  exact wpAny_call (sm_get (s := { s with toks := s.toks + 1 }) I.kIn hp (handed_on rfl (h _ (I.tok _))))
/-- C.m(), a staticmethod -/
def tSta (C : Addr) (sp : Sp) (E : XK) (ta : TE) (t : TA) : TE := fun σ H Q => ta σ H fun x H1 => x = .ref C ∧ t σ H1 fun vs H2 => sp vs H2 Q E
theorem pe_sta0 {o : Expr} {m : PySem.Str} {mc : Value} {ta : TE} {pos apos : Pos} {pl : Sem Bool} (he : PE X o ta) (r : ClX.CRead X.K C mc) (c : CSta X.K C mc m p g) (F : FnR X.prog X.w X.K X.mg X.base CX n g sp) (hr : Room n X.A) (hx : Passes CX X E)
    (ht : eval (.Call (.Attribute o m apos) [] [] pos) X.env = (do
      let ov ← eval o X.env
      standAt apos.atName
      let (f, first) ← holding [ov] (getMethod ov m pl)
      callWith pos f first (backTo pos (starEach [] X.env)) (backToKw pos (keywordEach [] X.env))) := by rfl) :
    PE X (.Call (.Attribute o m apos) [] [] pos) (tSta C sp E ta tNil) := by
  refine ⟨fun pins s σ H Q I h => ?_⟩
  refine methodCall_KW (pl := pl) (thn (he.run pins s σ H _ I h) fun u s1 ⟨x, H1, I1, rx, ex, q⟩ => ?_) ht
  subst ex
  obtain rfl : u = Value.ref C := rx
  refine getmethsm_ok I1 r c fun s2 I2 => ?_
  exact callWith_K0 (first := []) I2.kIn c.kp (wpAny_call (run_fnR (us := []) (vs := []) F hr hx I2 .nil q))
/-- C.m(), a classmethod -/
theorem pe_cmeth0 {o : Expr} {m : PySem.Str} {mc : Value} {ta : TE} {pos apos : Pos} {pl : Sem Bool} (he : PE X o ta) (r : ClX.CRead X.K C mc) (c : ClX.CMet X.K C mc m p g) (F : FnR X.prog X.w X.K X.mg X.base CX n g sp) (hr : Room n X.A) (hx : Passes CX X E)
    (ht : eval (.Call (.Attribute o m apos) [] [] pos) X.env = (do
      let ov ← eval o X.env
      standAt apos.atName
      let (f, first) ← holding [ov] (getMethod ov m pl)
      callWith pos f first (backTo pos (starEach [] X.env)) (backToKw pos (keywordEach [] X.env))) := by rfl) :
    PE X (.Call (.Attribute o m apos) [] [] pos) (ClX.tCMeth C sp E ta tNil) := by
  refine ⟨fun pins s σ H Q I h => ?_⟩
  refine methodCall_KW (pl := pl) (thn (he.run pins s σ H _ I h) fun u s1 ⟨x, H1, I1, rx, ex, q⟩ => ?_) ht
  subst ex
  obtain rfl : u = Value.ref C := rx
  refine ClX.getmethcm_ok I1 r c fun s2 I2 => ?_
  exact callWith_M0 (K := X.K) (first := []) ⟨ClX.pin_at I2, I2.kIn⟩ c.fi (ClX.run_cm (us := []) (vs := []) F hr hx I2 .nil q)
end
end Vf

set_option Elab.async false
set_option linter.all false
set_option maxRecDepth 100000
/-! A plain def read off a class and called. -/
namespace Vf
open PySem PySem.Spec PyProof.Rows L2 PySem.W
/-- C.m, a plain def read off the class -/
structure CFun (K : Frag) (C : Addr) (mc : Value) (m : PySem.Str) (g : Addr) : Prop where
  at_ : findCls K (.ref C) mc m = some (.val (.ref g))
  kp : keepIn K (.ref g) = true
section
variable {X : Cx} {CX : CXT} {n : Nat} {f g C p : Addr} {sp : Sp} {E : XK} {pins : List (Addr × Obj)} {σ : L2.St} {H : Hp} {s : Shared}
theorem pe_cfun {o e : Expr} {es : List Expr} {m : PySem.Str} {mc : Value} {ta : TE} {t : TA} {pos apos : Pos} {pl : Sem Bool} (he : PE X o ta) (r : ClX.CRead X.K C mc) (c : CFun X.K C mc m g) (F : FnR X.prog X.w X.K X.mg X.base CX n g sp) (hr : Room n X.A) (hx : Passes CX X E) (ha : PA X (e :: es) t)
    (hst : starEach (e :: es) X.env = (false, eval e X.env) :: starEach es X.env := by rfl) (hpl : (backTo pos (starEach es X.env)).any (·.1) = false := by rfl)
    (ht : eval (.Call (.Attribute o m apos) (e :: es) [] pos) X.env = (do
      let ov ← eval o X.env
      standAt apos.atName
      let (f, first) ← holding [ov] (getMethod ov m pl)
      callWith pos f first (backTo pos (starEach (e :: es) X.env)) (backToKw pos (keywordEach [] X.env))) := by rfl) :
    PE X (.Call (.Attribute o m apos) (e :: es) [] pos) (tSta C sp E ta t) := by
  refine ⟨fun pins s σ H Q I h => ?_⟩
  refine methodCall_KW (pl := pl) (thn (he.run pins s σ H _ I h) fun u s1 ⟨x, H1, I1, rx, ex, q⟩ => ?_) ht
  subst ex
  obtain rfl : u = Value.ref C := rx
  refine method_cls I1.kIn r.ga (cls_value I1.kIn r.rd c.at_ rfl ?_)
  refine callWith_K (h₀ := X.base) I1.ok.mod.kin c.kp (thn (ha.run pos pins _ σ H1 _ (I1.tok _) q) fun us s2 ⟨vs, H2, I2, r2, q2⟩ => ⟨I2.kIn, ?_⟩) hst hpl
  exact wpAny_call (run_fnR F hr hx I2 r2 q2)
end
end Vf

set_option Elab.async false
set_option linter.all false
set_option maxRecDepth 100000
set_option exponentiation.threshold 3000
/-! Where the text stands in the statement. -/
namespace Vf
open PySem L2
def topS (i : Nat) : Stmt := PySem.Challenge.pw_boxregions_k02_exceptions_apart.main.body.getD i (.Pass ⟨0, 0, 0, 0⟩)
abbrev sC_BoxError : Stmt := topS 1
abbrev sC_InvalidBox : Stmt := topS 2
abbrev sC_InvalidSquare : Stmt := topS 3
abbrev sC_InvalidRegion : Stmt := topS 4
abbrev sC_InvalidNumber : Stmt := topS 5
abbrev sC_InvalidLoops : Stmt := topS 6
abbrev sC_InvalidAxis : Stmt := topS 7
abbrev sC_InvalidSpans : Stmt := topS 8
abbrev sC_InvalidName : Stmt := topS 9
abbrev sC_InvalidText : Stmt := topS 10
abbrev sC_InvalidLine : Stmt := topS 11
abbrev sC_Outside : Stmt := topS 12
abbrev sC_Unbounded : Stmt := topS 13
abbrev sC_Blocked : Stmt := topS 14
abbrev sC_TooMany : Stmt := topS 15
abbrev sC_NoName : Stmt := topS 16
abbrev sC_NothingLeft : Stmt := topS 17
abbrev sPool : Stmt := topS 19
abbrev sTake : Stmt := topS 20
abbrev sL_some : Stmt := topS 21
abbrev sL_kinds : Stmt := topS 22
abbrev sL_roots : Stmt := topS 23
abbrev sL_due : Stmt := topS 24
abbrev sLaw : Stmt := topS 25
abbrev sC_BoxError_init : Stmt := inClass sC_BoxError 0
abbrev sC_InvalidBox_init : Stmt := inClass sC_InvalidBox 0
abbrev sC_InvalidSquare_init : Stmt := inClass sC_InvalidSquare 0
abbrev sC_InvalidRegion_init : Stmt := inClass sC_InvalidRegion 0
abbrev sC_InvalidNumber_init : Stmt := inClass sC_InvalidNumber 0
abbrev sC_InvalidLoops_init : Stmt := inClass sC_InvalidLoops 0
abbrev sC_InvalidAxis_init : Stmt := inClass sC_InvalidAxis 0
abbrev sC_InvalidSpans_init : Stmt := inClass sC_InvalidSpans 0
abbrev sC_InvalidName_init : Stmt := inClass sC_InvalidName 0
abbrev sC_InvalidText_init : Stmt := inClass sC_InvalidText 0
abbrev sC_InvalidLine_init : Stmt := inClass sC_InvalidLine 0
abbrev sC_Outside_init : Stmt := inClass sC_Outside 0
abbrev sC_Unbounded_init : Stmt := inClass sC_Unbounded 0
abbrev sC_Blocked_init : Stmt := inClass sC_Blocked 0
abbrev sC_TooMany_init : Stmt := inClass sC_TooMany 0
abbrev sC_NoName_init : Stmt := inClass sC_NoName 0
end Vf

set_option Elab.async false
set_option linter.all false
set_option maxRecDepth 100000
/-! Defs that show data by repr: what they promise holds where no repr is under way around them. -/
namespace Vf
open PySem PySem.Spec PyProof.Rows L2

/-- a def's promise, asked only where nothing is being shown around the call -/
structure FnG (P : Program) (w : World) (K : PySem.W.Frag) (mg : Str → Option Value) (base : Heap) (CX : CXT) (k : Nat) (f : Addr) (fd : FuncData) (ps : List Str) (sp : Sp) : Prop where
  many : ∀ {vs H Q E}, sp vs H Q E → vs.length = ps.length
  goes : ∀ {A : Around} {outer : List Env} {s : Shared} {H : Hp} {args : Args} {us : List Value} {vs : List V} {Q : VK} {E : XK},
    A.guards = some [] → Room k A → Env0 P w K mg base A outer s H → BindsTo s fd args (ps.zip us) → Vals vs us → sp vs H Q E →
    codeAny (model P w) A (.call (.ref f) args) (CR CX outer P w H s Q E) s

section
variable {P : Program} {w : World} {K : PySem.W.Frag} {mg : Str → Option Value} {base : Heap} {CX : CXT} {k : Nat} {f : Addr} {fd : FuncData} {ps : List Str} {sp : Sp}
theorem FnG.of (F : FnOk P w K mg base CX k f fd ps sp) : FnG P w K mg base CX k f fd ps sp :=
  ⟨F.len _ _ _ _, fun _ hr he hb hv hs => F.run _ _ _ _ _ _ _ _ _ hr he hb hv hs⟩
theorem FnG.up {j : Nat} (F : FnG P w K mg base CX j f fd ps sp) (h : j ≤ k) : FnG P w K mg base CX k f fd ps sp :=
  ⟨F.many, fun hg hr he hb hv hs => F.goes hg (hr.mono h) he hb hv hs⟩

/-- the body of a def of the text, walked where nothing is being shown -/
theorem fnG_of {x qual : Str} {st : Stmt} {N : List Str} (F : Fun K x qual st f fd) (S : FnScope N ps (defScope st)) (many : ∀ {vs H Q E}, sp vs H Q E → vs.length = ps.length)
    (walk : ∀ (cdv : Value) (A : Around) (outer : List Env) (s : Shared) (H : Hp) (vs : List V) (Q : VK) (E : XK), A.guards = some [] →
      Room k (A.deeper (envOfC qual (defScope st) s.heap.objs.size f cdv)) → sp vs H Q E →
      ∃ t, PSs (cxOf CX P w K mg base N qual (defScope st) f cdv A outer s H E) (defBody st) t ∧ t { nx := fun _ H' => Q .non H', rt := Q } (start N vs) H) :
    FnG P w K mg base CX (k + 1) f fd ps sp := by
  obtain ⟨clo, odi, kwd, dcs, pmt, ann, cdv, ctx, slo, rfl, look, code⟩ := F.ex
  refine ⟨many, @fun A outer s H args us vs Q E hg hr e0 hb rv hsp => ?_⟩
  have hlen := many hsp
  have KX : K.In s.heap := e0.mod.kin.keeps (fun b o e => (e0.bs b o e).1)
  have nolim : s.heap.NoLimit := e0.mod.nolimit.keeps (fun b o e => (e0.bs b o e).1)
  have kinds : ∀ y ∈ ps.zip us, (defScope st).names.lookup y.1 = some .local ∨
      ((defScope st).names.lookup y.1 = some .cell ∧ ((cellsFrom (s.heap.objs.size + 1) (defScope st).names []).lookup y.1).isSome = true) := by
    rintro ⟨nm, va⟩ hy
    cases S.par nm (List.of_mem_zip hy).1 with
    | inl q => exact Or.inl q
    | inr q => exact Or.inr ⟨q, PySem.W.cellsFrom_some _ _ _ (Or.inl q)⟩
  refine codeAny_call_function hr.depth (KX _ _ look) rfl S.co S.gen rfl (PySem.W.codeRec_of KX code) (hb _ _ _ _ ?_)
  refine wpAny_newFunctionEnv_cells S.kind kinds (fun env henv s1 inc => ?_)
  subst henv
  refine ⟨nolim.keeps inc.toInCall.keep, codeAny_func ?_⟩
  obtain ⟨t, ht, hq⟩ := walk cdv A outer s H vs Q E hg (hr.deeper _) hsp
  have I0 := inv_start (CX := CX) (P := P) (w := w) (K := K) (mg := mg) (base := base) (qual := qual) (f := f) (cd := cdv) (E := E) S hr.hd e0 hlen rv inc
  refine wpAny_mono (ht.run [] s1 (start N vs) H _ I0 hq) (fun fl s' hs => ?_) (fun e s' hs => hs)
  cases fl with
  | ret u =>
    obtain ⟨v, σ', H', J, r1, q⟩ := hs
    exact ⟨v, H', J.os, J.bare, J.base, J.hok, r1, q⟩
  | next =>
    obtain ⟨σ', H', J, q⟩ := hs
    exact ⟨V.non, H', J.os, J.bare, J.base, J.hok, (rfl : Value.none = Value.none), q⟩
  | brk =>
    obtain ⟨_, _, _, q⟩ := hs
    exact q.elim
  | cont =>
    obtain ⟨_, _, _, q⟩ := hs
    exact q.elim
/-- the same for a def that no exception leaves -/
theorem okG {x qual : Str} {st : Stmt} {N : List Str} (F : Fun K x qual st f fd) (S : FnScope N ps (defScope st)) (many : ∀ {vs H Q E}, sp vs H Q E → vs.length = ps.length)
    (walk : ∀ (cdv : Value) (A : Around) (outer : List Env) (s : Shared) (H : Hp) (vs : List V) (Q : VK) (E : XK), A.guards = some [] →
      Room k (A.deeper (envOfC qual (defScope st) s.heap.objs.size f cdv)) → sp vs H Q E →
      ∃ t, PSs (cxOf CX0 P w K mg base N qual (defScope st) f cdv A outer s H E).nox (defBody st) t ∧ t { nx := fun _ H' => Q .non H', rt := Q } (start N vs) H) :
    FnG P w K mg base CX0 (k + 1) f fd ps sp :=
  fnG_of F S many (fun cdv A outer s H vs Q E hg hr hs => by
    obtain ⟨t, h, q⟩ := walk cdv A outer s H vs Q E hg hr hs
    exact ⟨t, h.nox, q⟩)
end

section
variable {X : Cx} {CX : CXT} {k : Nat} {f : Addr} {fd : FuncData} {ps : List Str} {sp : Sp} {dvs : List V} {ds : List Value} {E : XK} {x : Str} {p pos : Pos} {e : Expr} {es : List Expr} {t : TA}
/-- f(..) of such a def -/
theorem pe_callG (F : FnG X.prog X.w X.K X.mg X.base CX k f fd ps sp) (gd : X.A.guards = some []) (hr : Room k X.A) (hg : Gl X x) (hm : X.mg x = some (.ref f)) (hk : PySem.W.keepIn X.K (.ref f) = true) (hb : Binds X.K fd ps ds) (hd : Vals dvs ds)
    (hx : Passes CX X E) (ha : PA X (e :: es) t) (hdb : (x == ("__debug__" : Str)) = false := by decide) (he : starEach (e :: es) X.env = (false, eval e X.env) :: starEach es X.env := by rfl)
    (hpl : (backTo pos (starEach es X.env)).any (·.1) = false := by rfl) : PE X (.Call (.Name x p) (e :: es) [] pos) (tCall sp dvs E t) := by
  constructor
  intro pins s σ H Q I h
  apply wpAny_Call_Name_kw
  refine ld_glob I hg hm ?_ hdb
  refine PySem.W.callWith_K (h₀ := X.base) I.ok.mod.kin hk (thn (ha.run pos pins s σ H _ I h) ?_) he hpl
  rintro us s1 ⟨vs, H1, I1, r1, q1⟩
  refine ⟨I1.kIn, ?_⟩
  have r2 : Vals (vs ++ dvs) (us ++ ds) := r1.append hd
  have many : (us ++ ds).length = ps.length := (r2.length).symm.trans (F.many q1)
  refine wpAny_call (codeAny_mono (F.goes gd hr I1.env0 (hb s1 us I1.kIn many) r2 q1) ?_)
  intro r s' hq
  match r, hq with
  | .error e, hq => exact hx pins σ H1 s1 e s' I1 hq
  | .ok (.ret u), hq => exact I1.after hq
  | .ok .next, hq => exact (show False from hq).elim
  | .ok .brk, hq => exact (show False from hq).elim
  | .ok .cont, hq => exact (show False from hq).elim
end

section
variable {X : Cx}
/-- repr of data, where nothing is being shown around -/
theorem call_repr_data (gd : X.A.guards = some []) (hu : X.A.units + 64 < cLine) : CallR X (.builtin "repr") (fun xs H Q => ∃ v d, xs = [v] ∧ Dp X.K H v d ∧ d.showable = true ∧ d.hasDict = false ∧ d.depth ≤ 60 ∧ d.shown.length ≤ sizeLine ∧ Q (.str d.shown) H) := by
  intro pins s σ H xs us Q I r h
  obtain ⟨v, d, rfl, hd, hs, hn, hdep, hz, q⟩ := h
  obtain ⟨u, rfl, rv⟩ := vals1 r
  obtain ⟨as, rd⟩ := Dp.reads I d v u hd rv
  have nd : d.hasDict = true → sysModules ∉ as := fun z => by
    rw [hn] at z
    cases z
  cases hd with
  | non =>
    cases rv
    exact PySem.P.repr_of_none ⟨.str _, H, I.tok _, ⟨_, rfl⟩, q⟩
  | bl b =>
    cases rv
    exact PySem.P.repr_of_bool ⟨.str _, H, I.tok _, ⟨_, rfl⟩, by cases b <;> exact q⟩
  | int i =>
    obtain ⟨t, rfl⟩ := rv
    exact PySem.P.repr_of_int (of_decide_eq_true hs) ⟨.str _, H, I.tok _, ⟨_, rfl⟩, q⟩
  | str y =>
    obtain ⟨t, rfl⟩ := rv
    exact PySem.P.repr_of_str ⟨.str _, H, I.tok _, ⟨_, rfl⟩, q⟩ hz
  | lst hl ha =>
    cases rv
    exact repr_of_reads' rd hs nd gd (by omega) (fun _ _ e => e) (fun h' u tk hk => ⟨.str _, H, I.kept hk, ⟨_, rfl⟩, q⟩) hz
  | tup hl ha =>
    cases rv
    exact repr_of_reads' rd hs nd gd (by omega) (fun _ _ e => e) (fun h' u tk hk => ⟨.str _, H, I.kept hk, ⟨_, rfl⟩, q⟩) hz
end

/-! ### a law's end, its def walked where nothing is being shown -/
section
variable {P : Program} {w : World} {K : PySem.W.Frag} {mg mb : Str → Option Value} {CX : CXT} {k : Nat} {fa a : Addr} {fd : FuncData} {x : Str} {sp : Sp} {s1 : Shared} {vs : List Value} {ns : List Int}
/-- what a law is asked for -/
abbrev LawEnd (s1 : Shared) : Result → Shared → Prop := fun r s' => r = .ok (.ret (.bool true)) ∧ OldK s1.heap s'.heap ∧ s'.os = s1.os ∧ AllBare s'.gens
/-- from a view of the heap in which the script alone may be tracked, and then is known to its object -/
theorem lawG_at {H : Hp} (KX : K.In s1.heap) (gl : s1.heap.Ns mainGlobals mg) (bt : s1.heap.Ns builtinsNs mb) (bt2 : ∀ x : Str, x ≠ "__name__" → mb x = bootBuiltins x) (nolim : s1.heap.NoLimit) (gens : s1.gens = #[]) (hr : Room k callerA)
    (F : ∀ base : Heap, K.In base → base.Ns mainGlobals mg → FnG P w K mg base CX k fa fd [x] sp) (binds : ∀ (s : Shared) (u : Value), BindsTo s fd ⟨[u], []⟩ [(x, u)])
    (nocx : ∀ H e s', CX [] H s1 (fun _ _ _ => False) e s' → False) (hok : HOk P w H s1.heap) (lone : ∀ b, H b = none ∨ (b = a ∧ ∃ o ys, H b = some (.frz o (.lst ys))))
    (here : ∃ n, s1.heap.get? a = some { cls := .type "list", data := .seq vs.toArray n }) (out : H a ≠ none → K.lookup a = none) (ask : sp [.ref a] H (fun v _ => v = .bl true) fun _ _ _ => False) :
    codeAny (model P w) callerA (.call (.ref fa) ⟨[.ref a], []⟩) (LawEnd s1) s1 := by
  obtain ⟨nA, here⟩ := here
  -- what is read of the module is not tracked
  have off : ∀ {b : Addr} {m : Str → Option Value}, s1.heap.Ns b m → (hidT s1.heap H).Ns b m := by
    rintro b m ⟨o, es, ep, e, d, r⟩
    refine ⟨o, es, ep, hidT_get e ?_, d, r⟩
    rcases lone b with z | ⟨rfl, _⟩
    · exact z
    · rw [here] at e
      cases e
      cases (show Data.seq vs.toArray nA = Data.dict es ep from d)
  have inn : K.In (hidT s1.heap H) := fun b o e => hidT_get (KX b o e) (by
    rcases lone b with z | ⟨rfl, o', ys, z⟩
    · exact z
    · have := out (by rw [z]; simp)
      rw [this] at e
      cases e)
  have lim : (hidT s1.heap H).NoLimit := by
    obtain ⟨mc, h1, h2⟩ := nolim
    exact ⟨mc, off h1, h2⟩
  have e0 : Env0 P w K mg (hidT s1.heap H) callerA [] s1 H :=
    { frames := rfl, mod := ⟨inn, off gl, ⟨mb, off bt, bt2⟩, lim⟩, bs := fun b o e => of_hidT e, bsz := Nat.le_of_eq (hidT_size _ _), funs := trivial,
      frf := fun b hb => absurd (show b ∈ ([] : List Addr) from hb) (by simp), hok := hok, bare := .of_eq gens }
  have run := (F _ inn (off gl)).goes (A := callerA) (args := ⟨[.ref a], []⟩) (us := [.ref a]) (vs := [.ref a]) rfl hr e0 (binds s1 (.ref a)) (.cons rfl .nil) ask
  refine codeAny_mono run (fun r s' h => ?_)
  match r, h with
  | .error e, h => exact (nocx H e s' h).elim
  | .ok .next, h => exact (show False from h).elim
  | .ok .brk, h => exact (show False from h).elim
  | .ok .cont, h => exact (show False from h).elim
  | .ok (.ret u), h =>
    obtain ⟨v, H', sameOs, bare, un, hok', rv, q⟩ := h
    cases (show v = V.bl true from q)
    cases (show u = Value.bool true from rv)
    refine ⟨rfl, OldK.of_keep (fun b o e => ?_), sameOs, bare⟩
    rcases lone b with z | ⟨_, o', ys, z⟩
    · exact un.keep b o e z (fun m => absurd (show b ∈ ([] : List Addr) from m) (by simp)) (by simp)
    · have h1 := (hok b _ z).1
      have h2 := (hok' b _ (un.frzs b o' _ z)).1
      rw [e] at h1
      cases h1
      exact h2
theorem lawG (KX : K.In s1.heap) (gl : s1.heap.Ns mainGlobals mg) (bt : s1.heap.Ns builtinsNs mb) (bt2 : ∀ x : Str, x ≠ "__name__" → mb x = bootBuiltins x) (nolim : s1.heap.NoLimit) (gens : s1.gens = #[])
    (ha : s1.heap.get? a = some { cls := .type "list", data := .seq vs.toArray }) (whole : IntsAre vs ns) (short : ns.length ≤ sizeLine) (hr : Room k callerA)
    (F : ∀ base : Heap, K.In base → base.Ns mainGlobals mg → FnG P w K mg base CX k fa fd [x] sp) (binds : ∀ (s : Shared) (u : Value), BindsTo s fd ⟨[u], []⟩ [(x, u)])
    (ask : ∀ H : Hp, Only H → SqL K H a (ns.map V.int) → sp [.ref a] H (fun v _ => v = .bl true) fun _ _ _ => False)
    (nocx : ∀ H e s', CX [] H s1 (fun _ _ _ => False) e s' → False) : codeAny (model P w) callerA (.call (.ref fa) ⟨[.ref a], []⟩) (LawEnd s1) s1 := by
  have rv := vals_ints whole
  have many := whole.length
  cases hk : K.lookup a with
  | some o =>
    -- the script stands in the module's own part
    have e := KX a o hk
    rw [ha] at e
    cases e
    refine lawG_at (H := fun _ => none) KX gl bt bt2 nolim gens hr F binds nocx (fun b u z => by cases z) (fun b => .inl rfl) ⟨_, ha⟩ (fun z => absurd rfl z) (ask _ (fun b => .inl rfl) ?_)
    exact .inr ⟨_, vs.toArray, _, hk, rfl, rfl, rfl, (by rw [List.size_toArray, many]; exact short), by simpa using rv⟩
  | none =>
    have at_a : ∀ {b : Addr} {u : HO}, (if b = a then some (HO.frz { cls := .type "list", data := .seq vs.toArray } (.lst (ns.map V.int))) else none) = some u → b = a ∧ u = .frz { cls := .type "list", data := .seq vs.toArray } (.lst (ns.map V.int)) := by
      intro b u z
      by_cases hb : b = a
      · rw [if_pos hb] at z
        exact ⟨hb, (Option.some.inj z).symm⟩
      · rw [if_neg hb] at z
        cases z
    refine lawG_at (H := fun b => if b = a then some (.frz { cls := .type "list", data := .seq vs.toArray } (.lst (ns.map V.int))) else none) KX gl bt bt2 nolim gens hr F binds nocx (fun b u z => ?_) (fun b => ?_) ⟨_, ha⟩ (fun _ => hk) (ask _ (fun b => ?_) ?_)
    · obtain ⟨rfl, rfl⟩ := at_a z
      exact ⟨ha, by rw [List.length_map]; exact short, vs, _, rv, ha⟩
    · by_cases hb : b = a
      · exact .inr ⟨hb, _, _, if_pos hb⟩
      · exact .inl (if_neg hb)
    · by_cases hb : b = a
      · exact .inr ⟨_, _, if_pos hb⟩
      · exact .inl (if_neg hb)
    · exact .inl (.inr ⟨_, if_pos rfl⟩)
end
/-- the goal that k_head leaves -/
theorem walkG {l : PySem.W.OpenLaw} {n k : Nat} {q : Program} {loose : List Str} {XP : (Str → Option Value) → Heap → Prop} {YP : World → Heap → Prop} {d : DefRec} {K : Params → PySem.W.Frag} {CX : CXT} {sp : PySem.W.Frag → Sp} {x : Str}
    (hn : l.most = some n) (hn2 : n ≤ sizeLine) (nodef : d.params.defaults = []) (hr : Room k callerA) (hY : ∀ (w : World) (h : Heap), YP w h → (K w.params).In h)
    (F : ∀ (w : World) (mg : Str → Option Value) (fa : Addr) (h : Heap), (K w.params).In h → h.Ns mainGlobals mg → mg d.name = some (.ref fa) →
      ∃ fd : FuncData, (∀ (s : Shared) (u : Value), BindsTo s fd ⟨[u], []⟩ [(x, u)]) ∧ ∀ base : Heap, (K w.params).In base → base.Ns mainGlobals mg → FnG l.prog w (K w.params) mg base CX k fa fd [x] (sp (K w.params)))
    (ask : ∀ (K : PySem.W.Frag) (H : Hp) (a : Addr) (ns : List Int), ns.length ≤ n → Only H → SqL K H a (ns.map V.int) → sp K [.ref a] H (fun v _ => v = .bl true) fun _ _ _ => False)
    (nocx : ∀ (H : Hp) (s : Shared) (e : Value) (s' : Shared), CX [] H s (fun _ _ _ => False) e s' → False) : PySem.W.WalkO q loose XP YP l.row.toRowW d [] (fun f vs => PySem.call f vs) := by
  refine Att.attach_call hn nodef (fun w s0 s1 mg mb fa o pm cd doc a vs ns G Y ho hd hcd hmg hobj hints hlen gens => ?_)
  have KX := hY w _ Y
  obtain ⟨fd, hb, hF⟩ := F w mg fa _ KX G.T.g hmg
  exact lawG KX G.T.g G.T.b G.T.builtins G.T.nolimit gens hobj hints (Nat.le_trans hlen hn2) hr hF hb (fun H hO hS => ask _ H a ns hlen hO hS) (fun H e s' => nocx H s1 e s')
end Vf

set_option Elab.async false
set_option linter.all false
set_option maxRecDepth 100000
set_option maxHeartbeats 2000000
/-! The __init__ of each exception. -/
namespace Vf
open PySem PySem.Spec PyProof.Rows L2 PySem.W
open C8 (pss_cut tCut)
section
variable {P : Program} {w : World} {K : Frag} {mg : PySem.Str → Option Value} {base : Heap} {f g CB : Addr} {mc : Value} {fd : FuncData} {n : Nat}
theorem scXiBoxError : FnScope ["self", "value"] ["self", "value"] (defScope sC_BoxError_init) := ⟨rfl, rfl, rfl, by decide +kernel, rfl, by decide +kernel, by decide +kernel⟩
theorem ok_xiBoxError (F : Fun K "__init__" "BoxError.__init__" sC_BoxError_init f fd) (vB : findCls K (.type "ValueError") (.type "type") "__init__" = some (.val (.builtin "ValueError.__init__"))) (mB : mg "ValueError" = none) : FnOk P w K mg base CX0 (n + 1) f fd ["self", "value"] (spIniG K "ValueError.__new__" bbV) := by
  refine F.ok scXiBoxError (fun vs H Q E h => ?_) (fun cdv A outer st H vs Q E hr h => ?_)
  · obtain ⟨a, C, v, rfl, _⟩ := h
    rfl
  · obtain ⟨a, C, v, rfl, T, nv, ea, q⟩ := h
    refine ⟨_, (pss_cut (ps_expr (pe_baseinit efV (by rfl) mB PyProof.Rows.Boot.«ValueError» (by kernel_rfl) vB (by decide +kernel) (by decide +kernel) (by decide) (pa_cons (pv 0) (pa_cons (pv 1) pa_nil))))
  (pss_one (ps_first efV (pv 0) (pv 1)))), ?_⟩
    refine ⟨fun σ' H' => H' = H ∧ σ' = [some (.ref a), some v], ⟨.ref a, rfl, v, rfl, a, C, [v], rfl, by show 1 ≤ 1000; decide, T, ea, rfl, rfl⟩, ?_⟩
    rintro _ H1 ⟨rfl, rfl⟩
    exact ⟨v, rfl, .ref a, rfl, a, C, rfl, T, nv, ea, fun dx hdx ne => q dx hdx ne⟩
theorem scXiUnbounded : FnScope ["self", "value"] ["self", "value"] (defScope sC_Unbounded_init) := ⟨rfl, rfl, rfl, by decide +kernel, rfl, by decide +kernel, by decide +kernel⟩
theorem ok_xiUnbounded (F : Fun K "__init__" "Unbounded.__init__" sC_Unbounded_init f fd) (vB : findCls K (.type "RuntimeError") (.type "type") "__init__" = some (.val (.builtin "RuntimeError.__init__"))) (mB : mg "RuntimeError" = none) : FnOk P w K mg base CX0 (n + 1) f fd ["self", "value"] (spIniG K "RuntimeError.__new__" bbR) := by
  refine F.ok scXiUnbounded (fun vs H Q E h => ?_) (fun cdv A outer st H vs Q E hr h => ?_)
  · obtain ⟨a, C, v, rfl, _⟩ := h
    rfl
  · obtain ⟨a, C, v, rfl, T, nv, ea, q⟩ := h
    refine ⟨_, (pss_cut (ps_expr (pe_baseinit efR (by rfl) mB PyProof.Rows.Boot.«RuntimeError» (by kernel_rfl) vB (by decide +kernel) (by decide +kernel) (by decide) (pa_cons (pv 0) (pa_cons (pv 1) pa_nil))))
  (pss_one (ps_first efR (pv 0) (pv 1)))), ?_⟩
    refine ⟨fun σ' H' => H' = H ∧ σ' = [some (.ref a), some v], ⟨.ref a, rfl, v, rfl, a, C, [v], rfl, by show 1 ≤ 1000; decide, T, ea, rfl, rfl⟩, ?_⟩
    rintro _ H1 ⟨rfl, rfl⟩
    exact ⟨v, rfl, .ref a, rfl, a, C, rfl, T, nv, ea, fun dx hdx ne => q dx hdx ne⟩
theorem scXiBlocked : FnScope ["self", "value"] ["self", "value"] (defScope sC_Blocked_init) := ⟨rfl, rfl, rfl, by decide +kernel, rfl, by decide +kernel, by decide +kernel⟩
theorem ok_xiBlocked (F : Fun K "__init__" "Blocked.__init__" sC_Blocked_init f fd) (vB : findCls K (.type "RuntimeError") (.type "type") "__init__" = some (.val (.builtin "RuntimeError.__init__"))) (mB : mg "RuntimeError" = none) : FnOk P w K mg base CX0 (n + 1) f fd ["self", "value"] (spIniG K "RuntimeError.__new__" bbR) := by
  refine F.ok scXiBlocked (fun vs H Q E h => ?_) (fun cdv A outer st H vs Q E hr h => ?_)
  · obtain ⟨a, C, v, rfl, _⟩ := h
    rfl
  · obtain ⟨a, C, v, rfl, T, nv, ea, q⟩ := h
    refine ⟨_, (pss_cut (ps_expr (pe_baseinit efR (by rfl) mB PyProof.Rows.Boot.«RuntimeError» (by kernel_rfl) vB (by decide +kernel) (by decide +kernel) (by decide) (pa_cons (pv 0) (pa_cons (pv 1) pa_nil))))
  (pss_one (ps_first efR (pv 0) (pv 1)))), ?_⟩
    refine ⟨fun σ' H' => H' = H ∧ σ' = [some (.ref a), some v], ⟨.ref a, rfl, v, rfl, a, C, [v], rfl, by show 1 ≤ 1000; decide, T, ea, rfl, rfl⟩, ?_⟩
    rintro _ H1 ⟨rfl, rfl⟩
    exact ⟨v, rfl, .ref a, rfl, a, C, rfl, T, nv, ea, fun dx hdx ne => q dx hdx ne⟩
theorem scXiTooMany : FnScope ["self", "value"] ["self", "value"] (defScope sC_TooMany_init) := ⟨rfl, rfl, rfl, by decide +kernel, rfl, by decide +kernel, by decide +kernel⟩
theorem ok_xiTooMany (F : Fun K "__init__" "TooMany.__init__" sC_TooMany_init f fd) (vB : findCls K (.type "OverflowError") (.type "type") "__init__" = some (.val (.builtin "OverflowError.__init__"))) (mB : mg "OverflowError" = none) : FnOk P w K mg base CX0 (n + 1) f fd ["self", "value"] (spIniG K "OverflowError.__new__" bbO) := by
  refine F.ok scXiTooMany (fun vs H Q E h => ?_) (fun cdv A outer st H vs Q E hr h => ?_)
  · obtain ⟨a, C, v, rfl, _⟩ := h
    rfl
  · obtain ⟨a, C, v, rfl, T, nv, ea, q⟩ := h
    refine ⟨_, (pss_cut (ps_expr (pe_baseinit efO (by rfl) mB PyProof.Rows.Boot.«OverflowError» (by kernel_rfl) vB (by decide +kernel) (by decide +kernel) (by decide) (pa_cons (pv 0) (pa_cons (pv 1) pa_nil))))
  (pss_one (ps_first efO (pv 0) (pv 1)))), ?_⟩
    refine ⟨fun σ' H' => H' = H ∧ σ' = [some (.ref a), some v], ⟨.ref a, rfl, v, rfl, a, C, [v], rfl, by show 1 ≤ 1000; decide, T, ea, rfl, rfl⟩, ?_⟩
    rintro _ H1 ⟨rfl, rfl⟩
    exact ⟨v, rfl, .ref a, rfl, a, C, rfl, T, nv, ea, fun dx hdx ne => q dx hdx ne⟩
theorem scXiNoName : FnScope ["self", "value"] ["self", "value"] (defScope sC_NoName_init) := ⟨rfl, rfl, rfl, by decide +kernel, rfl, by decide +kernel, by decide +kernel⟩
theorem ok_xiNoName (F : Fun K "__init__" "NoName.__init__" sC_NoName_init f fd) (vB : findCls K (.type "KeyError") (.type "type") "__init__" = some (.val (.builtin "KeyError.__init__"))) (mB : mg "KeyError" = none) : FnOk P w K mg base CX0 (n + 1) f fd ["self", "value"] (spIniG K "LookupError.__new__" bbK) := by
  refine F.ok scXiNoName (fun vs H Q E h => ?_) (fun cdv A outer st H vs Q E hr h => ?_)
  · obtain ⟨a, C, v, rfl, _⟩ := h
    rfl
  · obtain ⟨a, C, v, rfl, T, nv, ea, q⟩ := h
    refine ⟨_, (pss_cut (ps_expr (pe_baseinit efK (by rfl) mB PyProof.Rows.Boot.«KeyError» (by kernel_rfl) vB (by decide +kernel) (by decide +kernel) (by decide) (pa_cons (pv 0) (pa_cons (pv 1) pa_nil))))
  (pss_one (ps_first efK (pv 0) (pv 1)))), ?_⟩
    refine ⟨fun σ' H' => H' = H ∧ σ' = [some (.ref a), some v], ⟨.ref a, rfl, v, rfl, a, C, [v], rfl, by show 1 ≤ 1000; decide, T, ea, rfl, rfl⟩, ?_⟩
    rintro _ H1 ⟨rfl, rfl⟩
    exact ⟨v, rfl, .ref a, rfl, a, C, rfl, T, nv, ea, fun dx hdx ne => q dx hdx ne⟩
theorem scXiInvalidBox : FnScope ["self", "value"] ["self", "value"] (defScope sC_InvalidBox_init) := ⟨rfl, rfl, rfl, by decide +kernel, rfl, by decide +kernel, by decide +kernel⟩
theorem ok_xiInvalidBox (F : Fun K "__init__" "InvalidBox.__init__" sC_InvalidBox_init f fd) (gB : mg "BoxError" = some (.ref CB)) (r : ClX.CRead K CB mc) (c : CFun K CB mc "__init__" g) (GB : FnR P w K mg base CX0 n g (spIniG K "ValueError.__new__" bbV)) : FnOk P w K mg base CX0 (n + 1) f fd ["self", "value"] (spIniG K "ValueError.__new__" bbV) := by
  refine F.ok scXiInvalidBox (fun vs H Q E h => ?_) (fun cdv A outer st H vs Q E hr h => ?_)
  · obtain ⟨a, C, v, rfl, _⟩ := h
    rfl
  · obtain ⟨a, C, v, rfl, T, nv, ea, q⟩ := h
    refine ⟨_, (pss_one (ps_expr (pe_cfun (pe_glob (v := .ref CB) (by rfl) gB rfl) r c GB hr pass0 (pa_cons (pv 0) (pa_cons (pv 1) pa_nil))))), ?_⟩
    exact ⟨rfl, .ref a, rfl, v, rfl, a, C, v, rfl, T, nv, ea, q⟩
theorem scXiInvalidSquare : FnScope ["self", "value"] ["self", "value"] (defScope sC_InvalidSquare_init) := ⟨rfl, rfl, rfl, by decide +kernel, rfl, by decide +kernel, by decide +kernel⟩
theorem ok_xiInvalidSquare (F : Fun K "__init__" "InvalidSquare.__init__" sC_InvalidSquare_init f fd) (gB : mg "BoxError" = some (.ref CB)) (r : ClX.CRead K CB mc) (c : CFun K CB mc "__init__" g) (GB : FnR P w K mg base CX0 n g (spIniG K "ValueError.__new__" bbV)) : FnOk P w K mg base CX0 (n + 1) f fd ["self", "value"] (spIniG K "ValueError.__new__" bbV) := by
  refine F.ok scXiInvalidSquare (fun vs H Q E h => ?_) (fun cdv A outer st H vs Q E hr h => ?_)
  · obtain ⟨a, C, v, rfl, _⟩ := h
    rfl
  · obtain ⟨a, C, v, rfl, T, nv, ea, q⟩ := h
    refine ⟨_, (pss_one (ps_expr (pe_cfun (pe_glob (v := .ref CB) (by rfl) gB rfl) r c GB hr pass0 (pa_cons (pv 0) (pa_cons (pv 1) pa_nil))))), ?_⟩
    exact ⟨rfl, .ref a, rfl, v, rfl, a, C, v, rfl, T, nv, ea, q⟩
theorem scXiInvalidRegion : FnScope ["self", "value"] ["self", "value"] (defScope sC_InvalidRegion_init) := ⟨rfl, rfl, rfl, by decide +kernel, rfl, by decide +kernel, by decide +kernel⟩
theorem ok_xiInvalidRegion (F : Fun K "__init__" "InvalidRegion.__init__" sC_InvalidRegion_init f fd) (gB : mg "BoxError" = some (.ref CB)) (r : ClX.CRead K CB mc) (c : CFun K CB mc "__init__" g) (GB : FnR P w K mg base CX0 n g (spIniG K "ValueError.__new__" bbV)) : FnOk P w K mg base CX0 (n + 1) f fd ["self", "value"] (spIniG K "ValueError.__new__" bbV) := by
  refine F.ok scXiInvalidRegion (fun vs H Q E h => ?_) (fun cdv A outer st H vs Q E hr h => ?_)
  · obtain ⟨a, C, v, rfl, _⟩ := h
    rfl
  · obtain ⟨a, C, v, rfl, T, nv, ea, q⟩ := h
    refine ⟨_, (pss_one (ps_expr (pe_cfun (pe_glob (v := .ref CB) (by rfl) gB rfl) r c GB hr pass0 (pa_cons (pv 0) (pa_cons (pv 1) pa_nil))))), ?_⟩
    exact ⟨rfl, .ref a, rfl, v, rfl, a, C, v, rfl, T, nv, ea, q⟩
theorem scXiInvalidNumber : FnScope ["self", "value"] ["self", "value"] (defScope sC_InvalidNumber_init) := ⟨rfl, rfl, rfl, by decide +kernel, rfl, by decide +kernel, by decide +kernel⟩
theorem ok_xiInvalidNumber (F : Fun K "__init__" "InvalidNumber.__init__" sC_InvalidNumber_init f fd) (gB : mg "BoxError" = some (.ref CB)) (r : ClX.CRead K CB mc) (c : CFun K CB mc "__init__" g) (GB : FnR P w K mg base CX0 n g (spIniG K "ValueError.__new__" bbV)) : FnOk P w K mg base CX0 (n + 1) f fd ["self", "value"] (spIniG K "ValueError.__new__" bbV) := by
  refine F.ok scXiInvalidNumber (fun vs H Q E h => ?_) (fun cdv A outer st H vs Q E hr h => ?_)
  · obtain ⟨a, C, v, rfl, _⟩ := h
    rfl
  · obtain ⟨a, C, v, rfl, T, nv, ea, q⟩ := h
    refine ⟨_, (pss_one (ps_expr (pe_cfun (pe_glob (v := .ref CB) (by rfl) gB rfl) r c GB hr pass0 (pa_cons (pv 0) (pa_cons (pv 1) pa_nil))))), ?_⟩
    exact ⟨rfl, .ref a, rfl, v, rfl, a, C, v, rfl, T, nv, ea, q⟩
theorem scXiInvalidLoops : FnScope ["self", "value"] ["self", "value"] (defScope sC_InvalidLoops_init) := ⟨rfl, rfl, rfl, by decide +kernel, rfl, by decide +kernel, by decide +kernel⟩
theorem ok_xiInvalidLoops (F : Fun K "__init__" "InvalidLoops.__init__" sC_InvalidLoops_init f fd) (gB : mg "BoxError" = some (.ref CB)) (r : ClX.CRead K CB mc) (c : CFun K CB mc "__init__" g) (GB : FnR P w K mg base CX0 n g (spIniG K "ValueError.__new__" bbV)) : FnOk P w K mg base CX0 (n + 1) f fd ["self", "value"] (spIniG K "ValueError.__new__" bbV) := by
  refine F.ok scXiInvalidLoops (fun vs H Q E h => ?_) (fun cdv A outer st H vs Q E hr h => ?_)
  · obtain ⟨a, C, v, rfl, _⟩ := h
    rfl
  · obtain ⟨a, C, v, rfl, T, nv, ea, q⟩ := h
    refine ⟨_, (pss_one (ps_expr (pe_cfun (pe_glob (v := .ref CB) (by rfl) gB rfl) r c GB hr pass0 (pa_cons (pv 0) (pa_cons (pv 1) pa_nil))))), ?_⟩
    exact ⟨rfl, .ref a, rfl, v, rfl, a, C, v, rfl, T, nv, ea, q⟩
theorem scXiInvalidAxis : FnScope ["self", "value"] ["self", "value"] (defScope sC_InvalidAxis_init) := ⟨rfl, rfl, rfl, by decide +kernel, rfl, by decide +kernel, by decide +kernel⟩
theorem ok_xiInvalidAxis (F : Fun K "__init__" "InvalidAxis.__init__" sC_InvalidAxis_init f fd) (gB : mg "BoxError" = some (.ref CB)) (r : ClX.CRead K CB mc) (c : CFun K CB mc "__init__" g) (GB : FnR P w K mg base CX0 n g (spIniG K "ValueError.__new__" bbV)) : FnOk P w K mg base CX0 (n + 1) f fd ["self", "value"] (spIniG K "ValueError.__new__" bbV) := by
  refine F.ok scXiInvalidAxis (fun vs H Q E h => ?_) (fun cdv A outer st H vs Q E hr h => ?_)
  · obtain ⟨a, C, v, rfl, _⟩ := h
    rfl
  · obtain ⟨a, C, v, rfl, T, nv, ea, q⟩ := h
    refine ⟨_, (pss_one (ps_expr (pe_cfun (pe_glob (v := .ref CB) (by rfl) gB rfl) r c GB hr pass0 (pa_cons (pv 0) (pa_cons (pv 1) pa_nil))))), ?_⟩
    exact ⟨rfl, .ref a, rfl, v, rfl, a, C, v, rfl, T, nv, ea, q⟩
theorem scXiInvalidSpans : FnScope ["self", "value"] ["self", "value"] (defScope sC_InvalidSpans_init) := ⟨rfl, rfl, rfl, by decide +kernel, rfl, by decide +kernel, by decide +kernel⟩
theorem ok_xiInvalidSpans (F : Fun K "__init__" "InvalidSpans.__init__" sC_InvalidSpans_init f fd) (gB : mg "BoxError" = some (.ref CB)) (r : ClX.CRead K CB mc) (c : CFun K CB mc "__init__" g) (GB : FnR P w K mg base CX0 n g (spIniG K "ValueError.__new__" bbV)) : FnOk P w K mg base CX0 (n + 1) f fd ["self", "value"] (spIniG K "ValueError.__new__" bbV) := by
  refine F.ok scXiInvalidSpans (fun vs H Q E h => ?_) (fun cdv A outer st H vs Q E hr h => ?_)
  · obtain ⟨a, C, v, rfl, _⟩ := h
    rfl
  · obtain ⟨a, C, v, rfl, T, nv, ea, q⟩ := h
    refine ⟨_, (pss_one (ps_expr (pe_cfun (pe_glob (v := .ref CB) (by rfl) gB rfl) r c GB hr pass0 (pa_cons (pv 0) (pa_cons (pv 1) pa_nil))))), ?_⟩
    exact ⟨rfl, .ref a, rfl, v, rfl, a, C, v, rfl, T, nv, ea, q⟩
theorem scXiInvalidName : FnScope ["self", "value"] ["self", "value"] (defScope sC_InvalidName_init) := ⟨rfl, rfl, rfl, by decide +kernel, rfl, by decide +kernel, by decide +kernel⟩
theorem ok_xiInvalidName (F : Fun K "__init__" "InvalidName.__init__" sC_InvalidName_init f fd) (gB : mg "BoxError" = some (.ref CB)) (r : ClX.CRead K CB mc) (c : CFun K CB mc "__init__" g) (GB : FnR P w K mg base CX0 n g (spIniG K "ValueError.__new__" bbV)) : FnOk P w K mg base CX0 (n + 1) f fd ["self", "value"] (spIniG K "ValueError.__new__" bbV) := by
  refine F.ok scXiInvalidName (fun vs H Q E h => ?_) (fun cdv A outer st H vs Q E hr h => ?_)
  · obtain ⟨a, C, v, rfl, _⟩ := h
    rfl
  · obtain ⟨a, C, v, rfl, T, nv, ea, q⟩ := h
    refine ⟨_, (pss_one (ps_expr (pe_cfun (pe_glob (v := .ref CB) (by rfl) gB rfl) r c GB hr pass0 (pa_cons (pv 0) (pa_cons (pv 1) pa_nil))))), ?_⟩
    exact ⟨rfl, .ref a, rfl, v, rfl, a, C, v, rfl, T, nv, ea, q⟩
theorem scXiInvalidText : FnScope ["self", "value"] ["self", "value"] (defScope sC_InvalidText_init) := ⟨rfl, rfl, rfl, by decide +kernel, rfl, by decide +kernel, by decide +kernel⟩
theorem ok_xiInvalidText (F : Fun K "__init__" "InvalidText.__init__" sC_InvalidText_init f fd) (gB : mg "BoxError" = some (.ref CB)) (r : ClX.CRead K CB mc) (c : CFun K CB mc "__init__" g) (GB : FnR P w K mg base CX0 n g (spIniG K "ValueError.__new__" bbV)) : FnOk P w K mg base CX0 (n + 1) f fd ["self", "value"] (spIniG K "ValueError.__new__" bbV) := by
  refine F.ok scXiInvalidText (fun vs H Q E h => ?_) (fun cdv A outer st H vs Q E hr h => ?_)
  · obtain ⟨a, C, v, rfl, _⟩ := h
    rfl
  · obtain ⟨a, C, v, rfl, T, nv, ea, q⟩ := h
    refine ⟨_, (pss_one (ps_expr (pe_cfun (pe_glob (v := .ref CB) (by rfl) gB rfl) r c GB hr pass0 (pa_cons (pv 0) (pa_cons (pv 1) pa_nil))))), ?_⟩
    exact ⟨rfl, .ref a, rfl, v, rfl, a, C, v, rfl, T, nv, ea, q⟩
theorem scXiInvalidLine : FnScope ["self", "value"] ["self", "value"] (defScope sC_InvalidLine_init) := ⟨rfl, rfl, rfl, by decide +kernel, rfl, by decide +kernel, by decide +kernel⟩
theorem ok_xiInvalidLine (F : Fun K "__init__" "InvalidLine.__init__" sC_InvalidLine_init f fd) (gB : mg "BoxError" = some (.ref CB)) (r : ClX.CRead K CB mc) (c : CFun K CB mc "__init__" g) (GB : FnR P w K mg base CX0 n g (spIniG K "ValueError.__new__" bbV)) : FnOk P w K mg base CX0 (n + 1) f fd ["self", "value"] (spIniG K "ValueError.__new__" bbV) := by
  refine F.ok scXiInvalidLine (fun vs H Q E h => ?_) (fun cdv A outer st H vs Q E hr h => ?_)
  · obtain ⟨a, C, v, rfl, _⟩ := h
    rfl
  · obtain ⟨a, C, v, rfl, T, nv, ea, q⟩ := h
    refine ⟨_, (pss_one (ps_expr (pe_cfun (pe_glob (v := .ref CB) (by rfl) gB rfl) r c GB hr pass0 (pa_cons (pv 0) (pa_cons (pv 1) pa_nil))))), ?_⟩
    exact ⟨rfl, .ref a, rfl, v, rfl, a, C, v, rfl, T, nv, ea, q⟩
theorem scXiOutside : FnScope ["self", "value"] ["self", "value"] (defScope sC_Outside_init) := ⟨rfl, rfl, rfl, by decide +kernel, rfl, by decide +kernel, by decide +kernel⟩
theorem ok_xiOutside (F : Fun K "__init__" "Outside.__init__" sC_Outside_init f fd) (gB : mg "BoxError" = some (.ref CB)) (r : ClX.CRead K CB mc) (c : CFun K CB mc "__init__" g) (GB : FnR P w K mg base CX0 n g (spIniG K "ValueError.__new__" bbV)) : FnOk P w K mg base CX0 (n + 1) f fd ["self", "value"] (spIniG K "ValueError.__new__" bbV) := by
  refine F.ok scXiOutside (fun vs H Q E h => ?_) (fun cdv A outer st H vs Q E hr h => ?_)
  · obtain ⟨a, C, v, rfl, _⟩ := h
    rfl
  · obtain ⟨a, C, v, rfl, T, nv, ea, q⟩ := h
    refine ⟨_, (pss_one (ps_expr (pe_cfun (pe_glob (v := .ref CB) (by rfl) gB rfl) r c GB hr pass0 (pa_cons (pv 0) (pa_cons (pv 1) pa_nil))))), ?_⟩
    exact ⟨rfl, .ref a, rfl, v, rfl, a, C, v, rfl, T, nv, ea, q⟩
end
end Vf

set_option Elab.async false
set_option linter.all false
set_option maxRecDepth 100000
/-! Data in the abstract heap: what stays, its kinds; a list that is set aside. -/
namespace Vf
open PySem PySem.Spec PyProof.Rows L2

section
variable {K : PySem.W.Frag} {H H' : Hp}
theorem sqT_same {a : Addr} {xs : List V} (e : Same H H') (h : SqT K H a xs) : SqT K H' a xs := by
  rcases h with (h | ⟨o, h⟩) | h
  · exact .inl (.inl (e _ _ h))
  · exact .inl (.inr ⟨o, e _ _ h⟩)
  · exact .inr h
mutual
theorem dp_same (e : Same H H') : ∀ {d : PyData} {v : V}, Dp K H v d → Dp K H' v d
  | .none, _, .non => .non
  | .bool _, _, .bl b => .bl b
  | .int _, _, .int i => .int i
  | .str _, _, .str x => .str x
  | .list _, _, .lst h ha => .lst (e.seq h) (dpAll_same e ha)
  | .tuple _, _, .tup h ha => .tup (sqT_same e h) (dpAll_same e ha)
theorem dpAll_same (e : Same H H') : ∀ {ds : List PyData} {vs : List V}, DpAll K H vs ds → DpAll K H' vs ds
  | [], _, .nil => .nil
  | _ :: _, _, .cons h t => .cons (dp_same e h) (dpAll_same e t)
end
theorem dpAll_len : ∀ {ds : List PyData} {vs : List V}, DpAll K H vs ds → vs.length = ds.length
  | [], _, .nil => rfl
  | _ :: _, _, .cons _ t => congrArg (· + 1) (dpAll_len t)
theorem dpAll_get : ∀ {ds : List PyData} {vs : List V} {i : Nat} {v : V}, DpAll K H vs ds → vs[i]? = some v → ∃ d, ds[i]? = some d ∧ Dp K H v d
  | [], _, _, _, .nil, h => by simp at h
  | d :: _, _, 0, _, .cons hd _, h => by
    simp at h
    subst h
    exact ⟨d, rfl, hd⟩
  | _ :: _, _, i + 1, _, .cons _ t, h => by
    obtain ⟨d, h1, h2⟩ := dpAll_get (i := i) t (by simpa using h)
    exact ⟨d, by simpa using h1, h2⟩
theorem dpAll_mk : ∀ {ds : List PyData} {vs : List V}, vs.length = ds.length → (∀ (i : Nat) v d, vs[i]? = some v → ds[i]? = some d → Dp K H v d) → DpAll K H vs ds
  | [], [], _, _ => .nil
  | [], _ :: _, h, _ => by simp at h
  | _ :: _, [], h, _ => by simp at h
  | d :: ds, v :: vs, h, f => .cons (f 0 v d rfl rfl) (dpAll_mk (by simpa using h) fun i v d h1 h2 => f (i + 1) v d (by simpa using h1) (by simpa using h2))
theorem dpAll_app : ∀ {ds es : List PyData} {vs us : List V}, DpAll K H vs ds → DpAll K H us es → DpAll K H (vs ++ us) (ds ++ es)
  | [], _, _, _, .nil, h => h
  | _ :: _, _, _, _, .cons a t, h => .cons a (dpAll_app t h)
theorem dpAll_take : ∀ {ds : List PyData} {vs : List V} (n : Nat), DpAll K H vs ds → DpAll K H (vs.take n) (ds.take n)
  | _, _, 0, _ => .nil
  | [], _, _ + 1, .nil => .nil
  | _ :: _, _, n + 1, .cons a t => .cons a (dpAll_take n t)
theorem dpAll_drop : ∀ {ds : List PyData} {vs : List V} (n : Nat), DpAll K H vs ds → DpAll K H (vs.drop n) (ds.drop n)
  | _, _, 0, h => h
  | [], _, _ + 1, .nil => .nil
  | _ :: _, _, n + 1, .cons _ t => dpAll_drop n t
theorem dpAll_rev {ds : List PyData} {vs : List V} (h : DpAll K H vs ds) : DpAll K H vs.reverse ds.reverse := by
  induction ds generalizing vs with
  | nil => cases h; exact .nil
  | cons d ds ih =>
    cases h with
    | cons a t =>
      rw [List.reverse_cons, List.reverse_cons]
      exact dpAll_app (ih t) (.cons a .nil)
theorem dpAll_ints (ns : List Int) : DpAll K H (ns.map V.int) (ns.map PyData.int) := by
  induction ns with
  | nil => exact .nil
  | cons n ns ih => exact .cons (.int n) ih
theorem same_new {p : Addr} {o : HO} (h : H p = none) : Same H (upd H p o) := fun b x e => by
  rw [upd_ne (ne_of_none e h)]
  exact e
theorem sqL_new {p : Addr} {xs : List V} : SqL K (upd H p (.lst xs)) p xs := .inl (.inl upd_same)
theorem sqT_new {p : Addr} {xs : List V} : SqT K (upd H p (.tup xs)) p xs := .inl (.inl upd_same)
end

/-- the name of a datum's built-in class -/
def tyName : PyData → String
  | .none => "NoneType"
  | .bool _ => "bool"
  | .int _ => "int"
  | .str _ => "str"
  | .list _ => "list"
  | .tuple _ => "tuple"
  | .dict _ => "dict"
theorem tyX_dp {K : PySem.W.Frag} {H : Hp} {v : V} {d : PyData} (h : Dp K H v d) : TyX K H v (.type (tyName d)) := by
  cases h with
  | non => exact .base .non
  | bl b => exact .base (.bl b)
  | int i => exact .base (.int i)
  | str x => exact .base (.str x)
  | lst h _ =>
    rcases h with (h | ⟨o, h⟩) | h
    · exact .base (.lst h)
    · exact .base (.frz h)
    · obtain ⟨o, its, n, lk, hc, hd, _⟩ := h
      exact .kList lk (by assumption)
  | tup h _ =>
    rcases h with (h | ⟨o, h⟩) | h
    · exact .base (.tup h)
    · exact .fTuple h
    · obtain ⟨o, its, n, lk, hc, _⟩ := h
      exact .kTuple lk (by assumption)

/-! ### data that can be shown and compared -/
mutual
def nice : PyData → Bool
  | .none => true
  | .bool _ => true
  | .int i => decide (i.natAbs.log2 < 1920)
  | .str x => PyData.strOk x
  | .list ds => niceAll ds
  | .tuple ds => niceAll ds
  | .dict _ => false
def niceAll : List PyData → Bool
  | [] => true
  | d :: ds => nice d && niceAll ds
end
mutual
/-- no more signs than these are shown -/
def wide : PyData → Nat
  | .none => 5
  | .bool _ => 5
  | .int _ => 1921
  | .str x => 10 * x.length + 2
  | .list ds => wideAll ds + 3
  | .tuple ds => wideAll ds + 3
  | .dict _ => 0
def wideAll : List PyData → Nat
  | [] => 0
  | d :: ds => wide d + 2 + wideAll ds
end
theorem shownAll_len : ∀ ds : List PyData, (PyData.shownAll ds).length = ds.length
  | [] => by simp only [PyData.shownAll, List.length_nil]
  | d :: ds => by simp only [PyData.shownAll, List.length_cons, shownAll_len ds]
mutual
theorem shown_wide : ∀ d : PyData, nice d = true → d.shown.length ≤ wide d
  | .none, _ => by simp only [PyData.shown, wide]; decide +kernel
  | .bool b, _ => by cases b <;> (simp only [PyData.shown, wide]; decide +kernel)
  | .int i, h => by
    simp only [nice] at h
    simp only [PyData.shown, wide]
    exact int_text_len_1921 (of_decide_eq_true h)
  | .str x, h => by
    simp only [nice] at h
    simp only [PyData.shown, wide]
    refine StrLaws.reprText_len x (fun c hc => ?_)
    have h3 := Array.all_eq_true_iff_forall_mem.mp h c (Array.mem_toList_iff.mp hc)
    have h4 : c < 0x110000 := by simpa using h3
    have e : (16 : Nat) ^ 8 = 4294967296 := by decide
    omega
  | .list ds, h => by
    simp only [nice] at h
    simp only [PyData.shown, wide]
    have h1 := listText_len_le (PyData.shownAll ds)
    have h2 := shownAll_wide ds h
    rw [shownAll_len] at h1
    omega
  | .tuple ds, h => by
    simp only [nice] at h
    simp only [PyData.shown, wide]
    have h1 := tupleText_len_le (PyData.shownAll ds)
    have h2 := shownAll_wide ds h
    rw [shownAll_len] at h1
    omega
  | .dict _, h => by
    simp only [nice] at h
    cases h
theorem shownAll_wide : ∀ ds : List PyData, niceAll ds = true → ((PyData.shownAll ds).map (·.length)).sum + 2 * ds.length ≤ wideAll ds
  | [], _ => by simp only [PyData.shownAll, wideAll, List.map_nil, List.sum_nil, List.length_nil]; omega
  | d :: ds, h => by
    simp only [niceAll, Bool.and_eq_true] at h
    have h1 := shown_wide d h.1
    have h2 := shownAll_wide ds h.2
    simp only [PyData.shownAll, wideAll, List.map_cons, List.sum_cons, List.length_cons]
    omega
end
mutual
theorem nice_show : ∀ d : PyData, nice d = true → d.showable = true ∧ d.hasDict = false ∧ d.canLay0 = true
  | .none, _ => by simp only [PyData.showable, PyData.hasDict, PyData.canLay0, and_self]
  | .bool b, _ => by simp only [PyData.showable, PyData.hasDict, PyData.canLay0, and_self]
  | .int i, h => by
    simp only [nice] at h
    simp only [PyData.showable, PyData.hasDict, PyData.canLay0, h, and_self]
  | .str x, h => by
    simp only [nice] at h
    simp only [PyData.showable, PyData.hasDict, PyData.canLay0, h, and_self]
  | .list ds, h => by
    simp only [nice] at h
    simp only [PyData.showable, PyData.hasDict, PyData.canLay0]
    exact niceAll_show ds h
  | .tuple ds, h => by
    simp only [nice] at h
    simp only [PyData.showable, PyData.hasDict, PyData.canLay0]
    exact niceAll_show ds h
  | .dict _, h => by
    simp only [nice] at h
    cases h
theorem niceAll_show : ∀ ds : List PyData, niceAll ds = true → PyData.showableAll ds = true ∧ PyData.hasDictAll ds = false ∧ PyData.canLayAll0 ds = true
  | [], _ => by simp only [PyData.showableAll, PyData.hasDictAll, PyData.canLayAll0, and_self]
  | d :: ds, h => by
    simp only [niceAll, Bool.and_eq_true] at h
    obtain ⟨a1, a2, a3⟩ := nice_show d h.1
    obtain ⟨b1, b2, b3⟩ := niceAll_show ds h.2
    simp only [PyData.showableAll, PyData.hasDictAll, PyData.canLayAll0, a1, a2, a3, b1, b2, b3, Bool.and_self, Bool.or_self, and_self]
end
theorem niceAll_mem : ∀ {ds : List PyData}, niceAll ds = true ↔ ∀ d ∈ ds, nice d = true
  | [] => by simp [niceAll]
  | d :: ds => by simp [niceAll, niceAll_mem (ds := ds)]
theorem shaped_of {d : PyData} (h : nice d = true) (hd : d.depth ≤ 64) : SeqAt.shaped d = true := by
  unfold SeqAt.shaped
  rw [(nice_show d h).2.2, decide_eq_true hd]
  rfl
theorem depthAll_mem {n : Nat} : ∀ {ds : List PyData}, PyData.depthAll ds ≤ n ↔ ∀ d ∈ ds, d.depth ≤ n
  | [] => by simp [PyData.depthAll]
  | d :: ds => by
    simp only [PyData.depthAll, List.mem_cons, forall_eq_or_imp, ← depthAll_mem (ds := ds)]
    omega
theorem eqvAll_nil : ∀ ds : List PyData, PyData.eqvAll ds [] = ds.isEmpty
  | [] => by simp only [PyData.eqvAll, List.isEmpty_nil]
  | _ :: _ => by simp only [PyData.eqvAll, List.isEmpty_cons]
section
variable {X : Cx}
/-- repr(v) of data, told by what is nice of it -/
def rRepr (K : PySem.W.Frag) : List V → Hp → VK → Prop := fun xs H Q => ∃ v d, xs = [v] ∧ Dp K H v d ∧ nice d = true ∧ d.depth ≤ 60 ∧ wide d ≤ 1000000 ∧ Q (.str d.shown) H
theorem call_repr (gd : X.A.guards = some []) (hu : X.A.units + 64 < cLine) : CallR X (.builtin "repr") (rRepr X.K) := by
  intro pins s σ H xs us Q I r h
  obtain ⟨v, d, rfl, hd, hn, hdep, hw, q⟩ := h
  obtain ⟨a1, a2, _⟩ := nice_show d hn
  refine call_repr_data gd hu pins s σ H _ us Q I r ⟨v, d, rfl, hd, a1, a2, hdep, ?_, q⟩
  have h1 := shown_wide d hn
  exact Nat.le_trans h1 (Nat.le_trans hw (by decide))
end
end Vf

set_option Elab.async false
set_option linter.all false
set_option maxRecDepth 100000
/-! t[::-1] of a tuple. -/
namespace Vf
open PySem PySem.Spec PyProof.Rows L2 HT

theorem rev_places (n : Nat) : Builtin.Slice.slicePlaces ((n : Int) - 1) (-1) (-1) = n := by
  unfold Builtin.Slice.slicePlaces
  rw [if_neg (show ¬ ((-1 : Int) > 0) by decide)]
  by_cases h : ((n : Int) - 1 > -1)
  · rw [if_pos h]
    have e : ((n : Int) - 1 - -1 - 1) / -(-1) + 1 = n := by
      rw [show (-(-1) : Int) = 1 from rfl, Int.ediv_one]
      omega
    rw [e]
    rfl
  · rw [if_neg h]
    show 0 = n
    omega
theorem rev_pick {α : Type} (l : List α) : ∀ (k : Nat), k ≤ l.length → (List.range k).filterMap (fun (m : Nat) => l[((l.length : Int) - 1 + (m : Int) * -1).toNat]?) = (l.drop (l.length - k)).reverse
  | 0, _ => by simp
  | k + 1, h => by
    rw [List.range_succ, List.filterMap_append, rev_pick l k (by omega)]
    have e : ((l.length : Int) - 1 + (k : Int) * -1).toNat = l.length - (k + 1) := by omega
    have hk : l.length - (k + 1) < l.length := by omega
    have e2 : l.drop (l.length - (k + 1)) = l[l.length - (k + 1)] :: l.drop (l.length - k) := by
      rw [List.drop_eq_getElem_cons hk]
      congr 2
      omega
    rw [e2, List.reverse_cons]
    simp only [List.filterMap_cons, List.filterMap_nil, e, List.getElem?_eq_getElem hk]
section
variable {prog : Program} {w : World} {A : Around} {E : Value → Shared → Prop} {s : Shared}
theorem applied_rev {sl : Addr} {t : Tok} {n : Nat} {Q : Int × Int × Nat → Shared → Prop} (hs : s.heap.IsSliceOf sl .none .none (.int (-1) t)) (h : Q ((n : Int) - 1, -1, n) s) :
    wpAny (model prog w) A (Builtin.Slice.sliceApplied (.ref sl) (pure (n : Int))) Q E s := by
  obtain ⟨ob, get, _, dat⟩ := id hs
  unfold Builtin.Slice.sliceApplied Builtin.Slice.sliceFields
  refine wpAny_bind (wpAny_bind (wpAny_field get dat (x := .none) rfl (wpAny_bind (wpAny_field get dat (x := .none) rfl (wpAny_bind (wpAny_field get dat (x := .int (-1) t) rfl (wpAny_pure ?_)))))))
  refine wpAny_bind (slicePart_int ?_)
  show wpAny _ _ (if ((-1 : Int) == 0) = true then _ else _) _ _ s
  rw [if_neg (by decide)]
  refine wpAny_bind (slicePart_none (wpAny_bind (slicePart_none (wpAny_bind (wpAny_pure ?_)))))
  show wpAny _ _ (pure ((n : Int) - 1, (-1 : Int), Builtin.Slice.slicePlaces ((n : Int) - 1) (-1) (-1))) _ _ s
  rw [rev_places]
  exact wpAny_pure h
theorem getItem_tuple_rev {t sl : Addr} {items : Array Value} {tk : Tok} {Q : Value → Shared → Prop} (ht : IsTup s.heap t items) (hs : s.heap.IsSliceOf sl .none .none (.int (-1) tk))
    (h : Q (.ref s.heap.objs.size) { s with heap := s.heap.push { cls := .type "tuple", data := .seq items.toList.reverse.toArray } }) (hsz : items.size ≤ sizeLine) : wpAny (model prog w) A (getItem (.ref t) (.ref sl)) Q E s := by
  have fits : sizeOk (.seq items.toList.reverse.toArray) := by
    show items.toList.reverse.toArray.size ≤ sizeLine
    rw [List.size_toArray, List.length_reverse, Array.length_toList]
    exact hsz
  obtain ⟨ob, get, cls, dat⟩ := id hs
  have isS : s.TypeIs (.ref sl) "slice" := ⟨ob, get, cls⟩
  unfold getItem
  try with_reducible refine wpAny_holding ?_
  first | refine wpAny_bind (wpAny_pure ?_) | skip
  refine wpAny_bind (wpAny_sequenceKey ht.typeIs (by decide) ?_)
  refine wpAny_bind (wpAny_callSpecial?_slot (name := Str.ofString "__getitem__") ht.typeIs PyProof.Rows.slot_tuple_getitem
    (wpAny_call_entry PyProof.Rows.slot_tuple_getitem ht.typeIs entry_tuple_getitem ?_ (args_tuple_getitem _ _)))
  show wpAny _ _ (Builtin.Tuple.tupleItemsOf (.ref t) >>= _) _ _ s
  refine wpAny_bind (tupleItemsOf_ ht ?_)
  refine wpAny_bind (wpAny_typeOf isS ?_)
  rw [if_pos (by decide)]
  refine wpAny_bind (applied_rev hs ?_)
  have other : ¬ ((((items.size : Int) - 1 == 0) && ((-1 : Int) == 1) && (items.size == items.size)) = true) := by
    intro q
    rw [Bool.and_eq_true, Bool.and_eq_true] at q
    exact absurd (eq_of_beq q.1.2) (by decide)
  show wpAny _ _ (if (((items.size : Int) - 1 == 0) && ((-1 : Int) == 1) && (items.size == items.size)) = true then _ else _) _ _ s
  have pick : ((List.range items.size).filterMap fun (k : Nat) => items[((items.size : Int) - 1 + (k : Int) * -1).toNat]?) = items.toList.reverse := by
    have := rev_pick items.toList items.size (by simp)
    simp only [Array.length_toList, Nat.sub_self, List.drop_zero, Array.getElem?_toList] at this
    exact this
  rw [if_neg other, pick]
  first
    | exact wpAny_bind (m := Builtin.Tuple.tupleExact _) (wpAny_newObj_type (wpAny_pure ⟨_, rfl, wpAny_pure h⟩) fits)
    | exact wpAny_bind (m := Builtin.Tuple.tupleExact _) (wpAny_newObj_type (wpAny_bind (wpAny_pure (wpAny_pure ⟨_, rfl, wpAny_pure h⟩))) fits)
    | exact wpAny_bind (wpAny_bind (m := Builtin.Tuple.tupleExact _) (wpAny_newObj_type (wpAny_pure (wpAny_pure ⟨_, rfl, wpAny_pure h⟩)) fits))
    | exact wpAny_bind (wpAny_bind (m := Builtin.Tuple.tupleExact _) (wpAny_newObj_type (wpAny_pure ⟨_, rfl, wpAny_pure h⟩) fits))
end
section
variable {X : Cx}
def tRevT (K : PySem.W.Frag) (te : TE) : TE := fun σ H Q => te σ H fun x H1 => ∃ a xs, x = .ref a ∧ SqT K H1 a xs ∧ ∀ p, H1 p = none → Q (.ref p) (upd H1 p (.tup xs.reverse))
theorem pe_revT {e : Expr} {te : TE} {k : Nat} {p1 p2 p3 pos : Pos} (he : PE X e te) : PE X (.Subscript e (.Slice none none (some (.UnaryOp .USub (.Constant (.int 1) k p1) p2)) p3) pos) (tRevT X.K te) := by
  constructor
  intro pins s σ H Q I h
  refine Subscript_ (thn (he.run pins s σ H _ I h) ?_)
  rintro v s1 ⟨x, H1, I1, r1, a, xs, rfl, hx, q⟩
  cases r1
  have minus : PO X (some (.UnaryOp .USub (.Constant (.int 1) k p1) p2)) (tPart (tUn (rU fun i => .int (-i)) (tC (.int 1)))) := po_some (pe_un un_neg pe_int)
  refine wpAny_Slice (thn (po_none.run pins s1 σ H1 (fun o H2 => o = none ∧ H2 = H1) I1 ⟨rfl, rfl⟩) ?_)
  rintro vl s2 ⟨l, H2, I2, pl, rfl, rfl⟩
  refine thn (po_none.run pins s2 σ H2 (fun o H3 => o = none ∧ H3 = H2) I2 ⟨rfl, rfl⟩) ?_
  rintro vu s3 ⟨u, H3, I3, pu, rfl, rfl⟩
  refine thn (minus.run pins s3 σ H3 (fun o H4 => o = some (-1) ∧ H4 = H3) I3 ⟨1, rfl, -1, rfl, rfl, rfl⟩) ?_
  rintro vs s4 ⟨o, H4, I4, ps, rfl, rfl⟩
  have I5 : Inv X pins σ H4 { s4 with heap := s4.heap.push { cls := .type "slice", data := .fields #[vl, vu, vs] } } := I4.kept (t' := s4.toks) fun b ob q => Heap.get?_push_of_some _ q
  obtain ⟨its, r, ht, hz⟩ := I5.tuple hx
  have same := r.length
  cases pl
  cases pu
  cases ps with
  | int _ tk =>
    show wpAny (model X.prog X.w) X.A (subscriptTail e (.Slice none none (some (.UnaryOp .USub (.Constant (.int 1) k p1) p2)) p3) (.ref a) (.ref s4.heap.objs.size)) (EP X pins σ Q) X.xe { s4 with heap := s4.heap.push { cls := .type "slice", data := .fields #[.none, .none, .int (-1) tk] } }
    refine tail_any (ops := [.ref a, .ref s4.heap.objs.size]) ht.typeIs PyProof.Rows.slot_tuple_getitem.lookup ?_ (by with_unfolding_all rfl)
    refine getItem_tuple_rev ht (Heap.IsSliceOf.new _ .none .none (.int (-1) tk)) ?_ (by rw [List.size_toArray]; omega)
    refine ⟨.ref _, _, I5.laid (t' := s4.toks) (o := .tup xs.reverse) (fun b ob q => Heap.get?_push_of_some _ q) (Nat.le_refl _) ?_, rfl, q _ (I5.hok.fresh (Nat.le_refl _))⟩
    exact ⟨by rw [List.length_reverse]; exact hz, _, r.reverse, ⟨_, Heap.get?_push_size _ rfl, rfl, _, rfl⟩⟩
end
end Vf

set_option Elab.async false
set_option linter.all false
set_option maxRecDepth 100000
/-! A list set aside (the pool that a law draws from); tuples cut and joined, the new one or the same. -/
namespace Vf
open PySem PySem.Spec PyProof.Rows L2

/-- the heap without one address -/
def wo (p : Addr) (H : Hp) : Hp := fun b => if b = p then none else H b
theorem wo_ne {p b : Addr} {H : Hp} (h : b ≠ p) : wo p H b = H b := by
  unfold wo
  rw [if_neg h]
theorem wo_at {p : Addr} {H : Hp} : wo p H p = none := by
  unfold wo
  rw [if_pos rfl]
theorem wo_same {p : Addr} {H : Hp} : Same (wo p H) H := fun b o e => by
  by_cases h : b = p
  · subst h
    rw [wo_at] at e
    cases e
  · rw [wo_ne h] at e
    exact e
/-- all but one address is as it was -/
def But (p : Addr) (H H' : Hp) : Prop := ∀ b o, b ≠ p → H b = some o → H' b = some o
theorem But.refl {p : Addr} {H : Hp} : But p H H := fun _ _ _ h => h
theorem But.trans {p : Addr} {H H1 H2 : Hp} (a : But p H H1) (b : But p H1 H2) : But p H H2 := fun c o n h => b c o n (a c o n h)
theorem But.of {p : Addr} {H H' : Hp} (s : Same H H') : But p H H' := fun b o _ h => s b o h
theorem But.at {p : Addr} {H : Hp} {o : HO} : But p H (upd H p o) := fun b u n h => by
  rw [upd_ne n]
  exact h
theorem But.wo {p : Addr} {H H' : Hp} (h : But p H H') : Same (wo p H) (wo p H') := fun b o e => by
  by_cases n : b = p
  · subst n
    rw [wo_at] at e
    cases e
  · rw [wo_ne n] at e ⊢
    exact h b o n e
/-- what stood ahead of a new object stands beside it -/
theorem same_wo {c : Addr} {H : Hp} {o : HO} (h : H c = none) : Same H (wo c (upd H c o)) := fun b u e => by
  have n := ne_of_none e h
  rw [wo_ne n, upd_ne n]
  exact e
section
variable {K : PySem.W.Frag} {H H' : Hp} {p : Addr}
theorem sqT_wo {t : Addr} {xs : List V} (h : SqT K H t xs) {l : List V} (hp : H p = some (.lst l)) : SqT K (wo p H) t xs := by
  rcases h with (h | ⟨o, h⟩) | h
  · exact .inl (.inl (by rw [wo_ne (ne_of h hp (by simp))]; exact h))
  · exact .inl (.inr ⟨o, by rw [wo_ne (ne_of h hp (by simp))]; exact h⟩)
  · exact .inr h
theorem sqL_wo {t : Addr} {xs : List V} (n : t ≠ p) (h : SqL K H t xs) : SqL K (wo p H) t xs := by
  rcases h with (h | ⟨o, h⟩) | h
  · exact .inl (.inl (by rw [wo_ne n]; exact h))
  · exact .inl (.inr ⟨o, by rw [wo_ne n]; exact h⟩)
  · exact .inr h
theorem sqL_wo_at {H H' : Hp} {p l : Addr} {xs : List V} (b : But p H H') (n : l ≠ p) (h : SqL K H l xs) : SqL K H' l xs := wo_same.seq (b.wo.seq (sqL_wo n h))
end
section
variable {X : Cx}
/-- t + u, told as some tuple -/
def rCatN (K : PySem.W.Frag) : R2 := fun x y H Q => ∃ a b xs ys, x = .ref a ∧ y = .ref b ∧ SqT K H a xs ∧ SqT K H b ys ∧ xs.length + ys.length ≤ sizeLine ∧ ∀ t H', Same H H' → SqT K H' t (xs ++ ys) → Q (.ref t) H'
theorem op_catN : OpR X (binaryOp .Add) (rCatN X.K) := by
  intro pins s σ H x y v u Q I rx ry h
  obtain ⟨a, b, xs, ys, ex, ey, ha, hb, hz, q⟩ := h
  refine op_catA pins s σ H x y v u Q I rx ry ⟨a, b, xs, ys, ex, ey, ha, hb, hz, fun e => ?_, fun _ e => ?_, fun _ _ p hp => ?_⟩
  · subst e
    exact q b H (Same.refl H) hb
  · subst e
    exact q a H (Same.refl H) (by rw [List.append_nil]; exact ha)
  · exact q p _ (same_new hp) sqT_new
/-- t[i:j], told as some tuple -/
def rSlN (K : PySem.W.Frag) : V → Option Int → Option Int → Hp → VK → Prop := fun x lo hi H Q => ∃ a xs, x = .ref a ∧ SqT K H a xs ∧ ∀ t H', Same H H' → SqT K H' t (cutV xs lo hi) → Q (.ref t) H'
theorem cut_whole {xs : List V} {lo hi : Option Int} (h : HT.sIx xs.length 0 lo = 0 ∧ HT.sIx xs.length xs.length hi = xs.length) : cutV xs lo hi = xs := by
  unfold cutV
  rw [h.1, h.2]
  simp
theorem sl_tupN : SlR X (rSlN X.K) := by
  intro pins s σ H x v vl vu lo hi sl Q I rx hs pl pu h
  obtain ⟨a, xs, ex, hx, q⟩ := h
  refine sl_tupA pins s σ H x v vl vu lo hi sl Q I rx hs pl pu ⟨a, xs, ex, hx, fun e => ?_, fun _ p hp => ?_⟩
  · exact q a H (Same.refl H) (by rw [cut_whole e]; exact hx)
  · exact q p _ (same_new hp) sqT_new
end
/-- t[:i] -/
theorem cut_to (xs : List V) (i : Nat) : cutV xs none (some (i : Int)) = xs.take i := by
  unfold cutV
  rw [HT.sIx_none, HT.sIx_nat]
  simp only [List.drop_zero, Nat.sub_zero]
  by_cases h : i ≤ xs.length
  · rw [Nat.min_eq_left h]
  · rw [Nat.min_eq_right (by omega), List.take_of_length_le (Nat.le_refl _), List.take_of_length_le (by omega)]
/-- t[i:] -/
theorem cut_from (xs : List V) (i : Nat) : cutV xs (some (i : Int)) none = xs.drop i := by
  unfold cutV
  rw [HT.sIx_none, HT.sIx_nat]
  by_cases h : i ≤ xs.length
  · rw [Nat.min_eq_left h]
    exact List.take_of_length_le (by rw [List.length_drop]; exact Nat.le_refl _)
  · rw [Nat.min_eq_right (by omega), List.drop_of_length_le (Nat.le_refl _), List.drop_of_length_le (by omega)]
    simp
end Vf

set_option Elab.async false
set_option linter.all false
set_option maxRecDepth 100000
set_option exponentiation.threshold 3000
/-! The pool of a law. -/
namespace Vf
open PySem PySem.Spec PyProof.Rows L2
open C8 (pss_cut tCut)
theorem scPool : FnScope ["_law_script", "_law_k", "_law_cell", "_law_seed"] ["_law_script", "_law_k"] (defScope sPool) := ⟨rfl, rfl, rfl, by decide +kernel, rfl, by decide +kernel, by decide +kernel⟩
theorem scTake : FnScope ["_law_pool_here", "_law_sides", "_law_found"] ["_law_pool_here", "_law_sides"] (defScope sTake) := ⟨rfl, rfl, rfl, by decide +kernel, rfl, by decide +kernel, by decide +kernel⟩
section
variable {P : Program} {w : World} {K : PySem.W.Frag} {mg : Str → Option Value} {base : Heap}
/-! ### the pool -/
/-- a list of two numbers from which the law draws -/
def Pool (H : Hp) (p : Addr) : Prop := ∃ c s : Int, H p = some (.lst [.int c, .int s]) ∧ 0 ≤ c ∧ 0 ≤ s ∧ s < 2147483647
def spTake (_ : PySem.W.Frag) : Sp := fun vs H Q _ => ∃ p n, vs = [.ref p, .int n] ∧ Pool H p ∧ 0 < n ∧ n < 2 ^ 300 ∧ ∀ v o, 0 ≤ v → v < n → Pool (upd H p o) p → Q (.int v) (upd H p o)
theorem ok_take {f : Addr} {fd : FuncData} {k : Nat} (F : Fun K "_law_take" "_law_take" sTake f fd) : FnOk P w K mg base CX0 (k + 1) f fd ["_law_pool_here", "_law_sides"] (spTake K) := by
  have nd := scTake.nd
  refine F.ok scTake (fun vs H Q E h => ?_) (fun cdv A outer st H vs Q E hr h => ?_)
  · obtain ⟨p, n, rfl, _⟩ := h
    rfl
  · obtain ⟨p, n, rfl, ⟨c, s, hp, hc, hs, hs2⟩, hn, hn2, q⟩ := h
    have hw : CDivW c n := wide_div hn (b := 300) (by omega) (by decide) (by decide)
    have hb : SqL K H p [.int c, .int s] := .inl (.inl hp)
    refine ⟨_, (pss_cons (ps_if (pt_cmpR op_gt (pe_ix ix_list (pv 0) pe_int (fun _ _ => rfl)) pe_int (nomark _))
  (pss_cons (ps_set (i := 2) nd rfl (Or.inl rfl) (pe_op op_mod (pe_ix ix_list (pv 0) pe_int (fun _ _ => rfl)) (pv 1)))
  (pss_cons (ps_asg (pe_op op_fdivW (pe_ix ix_list (pv 0) pe_int (fun _ _ => rfl)) (pv 1)) (pg_sub (pv 0) pe_int set_list))
  (pss_one (ps_ret (pv 2)))))
  pss_nil)
  (pss_cons (ps_asg (pe_op op_mod (pe_op op_add (pe_op op_mul (pe_ix ix_list (pv 0) pe_int (fun _ _ => rfl)) pe_int) pe_int) pe_int) (pg_sub (pv 0) pe_int set_list))
  (pss_one (ps_ret (pe_op op_mod (pe_op op_fdivW (pe_op op_mod (pe_op op_mul (pe_ix ix_list (pv 0) pe_int (fun _ _ => rfl)) (pe_ix ix_list (pv 0) pe_int (fun _ _ => rfl))) pe_int) pe_int) (pv 1)))))), ?_⟩
    refine ⟨.ref p, rfl, p, _, 0, .int c, rfl, rfl, hb, atI_nat (j := 0) rfl, c, 0, rfl, rfl, _, rfl, ite2 (fun e => ?_) (fun e => ?_)⟩
    · -- from the great number
      refine ⟨.ref p, rfl, p, _, 0, .int c, rfl, rfl, hb, atI_nat (j := 0) rfl, .int n, rfl, c, n, rfl, rfl, hn, ?_⟩
      refine ⟨.ref p, rfl, p, _, 0, .int c, rfl, rfl, hb, atI_nat (j := 0) rfl, .int n, rfl, c, n, rfl, rfl, hw, ?_⟩
      refine ⟨.ref p, rfl, p, _, 0, 0, rfl, rfl, hp, rfl, ?_⟩
      refine ⟨_, rfl, q (c % n) _ (Int.emod_nonneg _ (by omega)) (Int.emod_lt_of_pos _ hn) ⟨c / n, s, upd_same, Int.ediv_nonneg hc (by omega), hs, hs2⟩⟩
    · refine ⟨.ref p, rfl, p, _, 1, .int s, rfl, rfl, hb, atI_nat (j := 1) rfl, s, 48271, rfl, rfl, .inl ⟨by omega, by omega⟩, s * 48271, 11, rfl, rfl, s * 48271 + 11, 2147483647, rfl, rfl, (show (0 : Int) < 2147483647 by decide), ?_⟩
      have h1 : 0 ≤ (s * 48271 + 11) % 2147483647 := Int.emod_nonneg _ (by decide)
      have h2 : (s * 48271 + 11) % 2147483647 < 2147483647 := Int.emod_lt_of_pos _ (by decide)
      refine ⟨.ref p, rfl, p, _, 1, 1, rfl, rfl, hp, rfl, ?_⟩
      have hb2 : SqL K (upd H p (.lst [.int c, .int ((s * 48271 + 11) % 2147483647)])) p [.int c, .int ((s * 48271 + 11) % 2147483647)] := sqL_new
      refine ⟨.ref p, rfl, p, _, 1, .int ((s * 48271 + 11) % 2147483647), rfl, rfl, hb2, atI_nat (j := 1) rfl, .ref p, rfl, p, _, 1, .int ((s * 48271 + 11) % 2147483647), rfl, rfl, hb2, atI_nat (j := 1) rfl, ((s * 48271 + 11) % 2147483647), ((s * 48271 + 11) % 2147483647), rfl, rfl, .inl ⟨by omega, by omega⟩, ((s * 48271 + 11) % 2147483647) * ((s * 48271 + 11) % 2147483647), 2147483629, rfl, rfl, (show (0 : Int) < 2147483629 by decide), ((s * 48271 + 11) % 2147483647) * ((s * 48271 + 11) % 2147483647) % 2147483629, 64, rfl, rfl, wide_div (by decide) (b := 7) (by decide) (by decide) (by decide), .int n, rfl, _, n, rfl, rfl, hn, ?_⟩
      exact q _ _ (Int.emod_nonneg _ (by omega)) (Int.emod_lt_of_pos _ hn) ⟨c, _, upd_same, hc, h1, h2⟩
def spPool (K : PySem.W.Frag) : Sp := fun vs H Q _ => ∃ (a : Addr) (ns : List Int) (k : Int), vs = [.ref a, .int k] ∧ SqL K H a (ns.map V.int) ∧ ns.length ≤ 1000 ∧ 0 ≤ k ∧ k ≤ 1000 ∧ ∀ p o, H p = none → Pool (upd H p o) p → Q (.ref p) (upd H p o)
theorem ok_pool {f : Addr} {fd : FuncData} {k : Nat} (F : Fun K "_law_pool" "_law_pool" sPool f fd) (ml : mg "len" = none) : FnOk P w K mg base CX0 (k + 1) f fd ["_law_script", "_law_k"] (spPool K) := by
  have nd := scPool.nd
  refine F.ok scPool (fun vs H Q E h => ?_) (fun cdv A outer st H vs Q E hr h => ?_)
  · obtain ⟨a, ns, j, rfl, _⟩ := h
    rfl
  · obtain ⟨a, ns, j, rfl, hS, hl, h0, h1, q⟩ := h
    refine ⟨_, (pss_cons (ps_set (i := 2) nd rfl (Or.inl rfl) pe_int)
  (pss_cut (ps_if (pt_cmpR op_lt (pv 1) (pe_callB call_len_seq (by rfl) ml PySem.boot_len (pa_cons (pv 0) pa_nil)) (nomark _))
  (pss_one (ps_set (i := 2) nd rfl (Or.inl rfl) (pe_ix ix_list (pv 0) (pv 1) (fun _ _ => rfl))))
  pss_nil)
  (pss_cons (ps_set (i := 3) nd rfl (Or.inl rfl) (pe_op op_mod (pe_op op_mul (pe_op op_add (pe_op op_add (pe_op op_mod (pv 2) pe_int) (pe_op op_mul (pe_op op_mul pe_int (pv 1)) (pv 1))) pe_int) pe_int) pe_int))
  (pss_cut (ps_if (pt_cmpR op_lt (pv 2) (pe_op op_pow pe_int pe_int) (nomark _))
  (pss_one (ps_set (i := 2) nd rfl (Or.inl rfl) pe_int))
  pss_nil)
  (pss_one (ps_ret (pe_lst (pa_cons (pv 2) (pa_cons (pe_op op_add (pe_op op_mod (pe_op op_mul (pv 3) (pv 3)) pe_int) pe_int) pa_nil))))))))), ?_⟩
    refine ⟨fun σ H' => H' = H ∧ ∃ c : Int, σ = [some (.ref a), some (.int j), some (.int c), none], ?_, ?_⟩
    · refine ⟨.int j, rfl, .ref a, rfl, a, _, rfl, .inl hS, j, _, rfl, rfl, _, rfl, ite2 (fun e => ?_) (fun e => ?_)⟩
      · have e' : j < ((ns.map V.int).length : Int) := of_decide_eq_true e
        rw [List.length_map] at e'
        obtain ⟨m, rfl⟩ : ∃ m : Nat, j = m := ⟨j.toNat, by omega⟩
        have hm : m < ns.length := by omega
        refine ⟨.ref a, rfl, .int m, rfl, a, _, (m : Int), .int ns[m], rfl, rfl, hS, atI_nat (j := m) ?_, rfl, ns[m], rfl⟩
        rw [List.getElem?_map, List.getElem?_eq_getElem hm]
        rfl
      · exact ⟨rfl, 0, rfl⟩
    · rintro σ' H' ⟨rfl, c, rfl⟩
      have b1 : 0 ≤ c % 2147483629 := Int.emod_nonneg _ (by decide)
      have b2 : c % 2147483629 < 2147483629 := Int.emod_lt_of_pos _ (by decide)
      have b3 : 0 ≤ 7919 * j * j := Int.mul_nonneg (by omega) h0
      have b4 : 7919 * j * j ≤ 7919 * 1000 * 1000 := Int.mul_le_mul (by omega) h1 h0 (by omega)
      refine ⟨.int c, rfl, c, 2147483629, rfl, rfl, (show (0 : Int) < 2147483629 by decide), .int j, rfl, 7919, j, rfl, rfl, .inl ⟨by omega, by omega⟩, .int j, rfl, 7919 * j, j, rfl, rfl, .inl ⟨by omega, by omega⟩,
        c % 2147483629, 7919 * j * j, rfl, rfl, c % 2147483629 + 7919 * j * j, 13, rfl, rfl, c % 2147483629 + 7919 * j * j + 13, 48271, rfl, rfl, .inl ⟨by omega, by omega⟩, _, 2147483647, rfl, rfl, (show (0 : Int) < 2147483647 by decide), ?_⟩
      have c1 : 0 ≤ (c % 2147483629 + 7919 * j * j + 13) * 48271 % 2147483647 := Int.emod_nonneg _ (by decide)
      have c2 : (c % 2147483629 + 7919 * j * j + 13) * 48271 % 2147483647 < 2147483647 := Int.emod_lt_of_pos _ (by decide)
      refine ⟨fun σ H2 => H2 = H' ∧ ∃ e : Int, 0 ≤ e ∧ σ = [some (.ref a), some (.int j), some (.int e), some (.int ((c % 2147483629 + 7919 * j * j + 13) * 48271 % 2147483647))], ?_, ?_⟩
      · refine ⟨.int c, rfl, 10, 18, rfl, rfl, ⟨by decide, by decide, by decide⟩, c, _, rfl, rfl, _, rfl, ite2 (fun e => ?_) (fun e => ?_)⟩
        · exact ⟨rfl, 0, Int.le_refl 0, rfl⟩
        · have e' : ¬ c < 10 ^ (18 : Int).toNat := fun z => e (decide_eq_true z)
          have e2 : (10 : Int) ^ (18 : Int).toNat = 1000000000000000000 := by decide
          rw [e2] at e'
          exact ⟨rfl, c, by omega, rfl⟩
      · rintro σ' H2 ⟨rfl, e, he, rfl⟩
        generalize (c % 2147483629 + 7919 * j * j + 13) * 48271 % 2147483647 = z at c1 c2
        have d1 : 0 ≤ z * z % 2147483587 := Int.emod_nonneg _ (by decide)
        have d2 : z * z % 2147483587 < 2147483587 := Int.emod_lt_of_pos _ (by decide)
        refine ⟨.int e, rfl, .int z, rfl, .int z, rfl, z, z, rfl, rfl, .inl ⟨by omega, by omega⟩, z * z, 2147483587, rfl, rfl, (show (0 : Int) < 2147483587 by decide), z * z % 2147483587, 1, rfl, rfl, (by show 2 ≤ sizeLine; decide), fun p hp => ?_⟩
        exact q p _ hp ⟨e, _, upd_same, he, by omega, by omega⟩
theorem pool_same {H H' : Hp} {p : Addr} (h : Pool H p) (s : Same H H') : Pool H' p := by
  obtain ⟨c, z, e, r⟩ := h
  exact ⟨c, z, s _ _ e, r⟩
theorem pool_ne {H : Hp} {p q : Addr} (h : Pool H p) (n : H q = none) : q ≠ p := by
  rintro rfl
  obtain ⟨c, z, e, r⟩ := h
  rw [e] at n
  cases n
theorem sqT_pool {H : Hp} {p t : Addr} {xs : List V} (h : Pool H p) (s : SqT K H t xs) : SqT K (wo p H) t xs := by
  obtain ⟨c, z, e, r⟩ := h
  exact sqT_wo s e
end
end Vf

set_option Elab.async false
set_option linter.all false
set_option maxRecDepth 100000
set_option maxHeartbeats 4000000
/-! Law k02: its helpers. -/
namespace Vf
open PySem PySem.Spec PyProof.Rows L2 PySem.W
open C8 (pss_cut tCut)
/-- exceptions of these classes, one behind the other -/
def XL (H : Hp) : List Addr → List V → Prop
  | [], [] => True
  | C :: Cs, x :: xs => (∃ a, x = .ref a ∧ XAt H a C) ∧ XL H Cs xs
  | _, _ => False
section
variable {H H' : Hp}
theorem XL.same (S : Same H H') : ∀ {Cs : List Addr} {xs : List V}, XL H Cs xs → XL H' Cs xs
  | [], [], _ => trivial
  | C :: Cs, x :: xs, h => ⟨h.1.elim fun a z => ⟨a, z.1, z.2.same S⟩, XL.same S (Cs := Cs) (xs := xs) h.2⟩
  | [], _ :: _, h => h.elim
  | _ :: _, [], h => h.elim
theorem XL.app : ∀ {Cs : List Addr} {xs : List V} {Ds : List Addr} {ys : List V}, XL H Cs xs → XL H Ds ys → XL H (Cs ++ Ds) (xs ++ ys)
  | [], [], _, _, _, h => h
  | C :: Cs, x :: xs, _, _, h, k => ⟨h.1, XL.app (Cs := Cs) (xs := xs) h.2 k⟩
  | [], _ :: _, _, _, h, _ => h.elim
  | _ :: _, [], _, _, h, _ => h.elim
theorem XL.len : ∀ {Cs : List Addr} {xs : List V}, XL H Cs xs → xs.length = Cs.length
  | [], [], _ => rfl
  | C :: Cs, x :: xs, h => congrArg (· + 1) (XL.len (Cs := Cs) (xs := xs) h.2)
  | [], _ :: _, h => h.elim
  | _ :: _, [], h => h.elim
theorem XL.get : ∀ {Cs : List Addr} {xs : List V} {i : Nat} {x : V}, XL H Cs xs → xs[i]? = some x → ∃ a C, x = .ref a ∧ Cs[i]? = some C ∧ XAt H a C
  | C :: Cs, y :: xs, 0, x, h, e => by
    obtain ⟨a, e1, at_⟩ := h.1
    have e2 : y = x := by simpa using e
    exact ⟨a, C, e2 ▸ e1, rfl, at_⟩
  | C :: Cs, y :: xs, i + 1, x, h, e => XL.get (Cs := Cs) (xs := xs) (i := i) h.2 (by simpa using e)
  | [], [], i, x, _, e => by simp at e
  | [], _ :: _, _, _, h, _ => h.elim
  | _ :: _, [], _, _, h, _ => h.elim
end
def spSome (Cs : List Addr) : Sp := fun vs H Q _ => ∃ v, vs = [v] ∧ ∀ l xs H', Same H H' → H' l = some (.lst xs) → XL H' Cs xs → Q (.ref l) H'
def spKinds (K : Frag) (Cs : List Addr) : Sp := fun vs H Q _ => ∃ (a C : Addr) (ks : Nat → Bool), vs = [.ref a] ∧ ExcC K C ∧ XAt H a C ∧ (∀ j, j < 16 → kitOne K (.ref C) (.ref (Cs.getD j 0)) = some (ks j)) ∧ ∀ l H', Same H H' → H' l = some (.lst ((List.range 16).map fun j => .bl (ks j))) → Q (.ref l) H'
/-- the built-in classes and BoxError -/
def rootV (CB : Addr) (j : Nat) : Value := ([.type "ValueError", .ref CB, .type "LookupError", .type "KeyError", .type "IndexError", .type "RuntimeError", .type "OverflowError"] : List Value).getD j .none
def spRoots (K : Frag) (CB : Addr) : Sp := fun vs H Q _ => ∃ (a C : Addr) (ks : Nat → Bool), vs = [.ref a] ∧ ExcC K C ∧ XAt H a C ∧ (∀ j, j < 7 → kitOne K (.ref C) (rootV CB j) = some (ks j)) ∧ ∀ l H', Same H H' → H' l = some (.lst ((List.range 7).map fun j => .bl (ks j))) → Q (.ref l) H'
section
variable {P : Program} {w : World} {K : Frag} {mg : PySem.Str → Option Value} {base : Heap} {n : Nat}
theorem scSome : FnScope ["_law_one", "_law_found"] ["_law_one"] (defScope sL_some) := ⟨rfl, rfl, rfl, by decide +kernel, rfl, by decide +kernel, by decide +kernel⟩
theorem scKinds : FnScope ["_law_e", "_law_found"] ["_law_e"] (defScope sL_kinds) := ⟨rfl, rfl, rfl, by decide +kernel, rfl, by decide +kernel, by decide +kernel⟩
theorem scRoots : FnScope ["_law_e", "_law_found"] ["_law_e"] (defScope sL_roots) := ⟨rfl, rfl, rfl, by decide +kernel, rfl, by decide +kernel, by decide +kernel⟩
theorem ok_some {f C0 C1 C2 C3 C4 C5 C6 C7 C8 C9 C10 C11 C12 C13 C14 C15 : Addr} {fd : FuncData} (F : Fun K "_law_some" "_law_some" sL_some f fd) (M0 : XMk P w K mg base "InvalidBox" C0 n) (M1 : XMk P w K mg base "InvalidSquare" C1 n) (M2 : XMk P w K mg base "InvalidRegion" C2 n) (M3 : XMk P w K mg base "InvalidNumber" C3 n) (M4 : XMk P w K mg base "InvalidLoops" C4 n) (M5 : XMk P w K mg base "InvalidAxis" C5 n) (M6 : XMk P w K mg base "InvalidSpans" C6 n) (M7 : XMk P w K mg base "InvalidName" C7 n) (M8 : XMk P w K mg base "InvalidText" C8 n) (M9 : XMk P w K mg base "InvalidLine" C9 n) (M10 : XMk P w K mg base "Outside" C10 n) (M11 : XMk P w K mg base "Unbounded" C11 n) (M12 : XMk P w K mg base "Blocked" C12 n) (M13 : XMk P w K mg base "TooMany" C13 n) (M14 : XMk P w K mg base "NoName" C14 n)
    (qN : excIn K C15 bbI "IndexError.__new__" = true) (gN : mg "NothingLeft" = some (.ref C15)) (kN : keepIn K (.ref C15) = true) : FnOk P w K mg base CX0 (n + 2) f fd ["_law_one"] (spSome [C0, C1, C2, C3, C4, C5, C6, C7, C8, C9, C10, C11, C12, C13, C14, C15]) := by
  have nd := scSome.nd
  refine F.ok scSome (fun vs H Q E h => ?_) (fun cdv A outer st H vs Q E hr h => ?_)
  · obtain ⟨v, rfl, _⟩ := h
    rfl
  · obtain ⟨v, rfl, q⟩ := h
    refine ⟨_, (pss_cut (ps_set (i := 1) nd rfl (Or.inl rfl) (pe_lst (pa_cons (pe_mkV M0 hr (by rfl) (pv 0)) (pa_cons (pe_mkV M1 hr (by rfl) (pv 0)) (pa_cons (pe_mkV M2 hr (by rfl) (pv 0)) (pa_cons (pe_mkV M3 hr (by rfl) (pv 0)) (pa_cons (pe_mkV M4 hr (by rfl) (pv 0)) pa_nil)))))))
  (pss_cut (ps_set (i := 1) nd rfl (Or.inl rfl) (pe_op op_cat (pv 1) (pe_lst (pa_cons (pe_mkV M5 hr (by rfl) (pv 0)) (pa_cons (pe_mkV M6 hr (by rfl) (pv 0)) (pa_cons (pe_mkV M7 hr (by rfl) (pv 0)) (pa_cons (pe_mkV M8 hr (by rfl) (pv 0)) (pa_cons (pe_mkV M9 hr (by rfl) (pv 0)) pa_nil))))))))
  (pss_cut (ps_set (i := 1) nd rfl (Or.inl rfl) (pe_op op_cat (pv 1) (pe_lst (pa_cons (pe_mkK M10 hr (by rfl) (pv 0)) (pa_cons (pe_mkK M11 hr (by rfl) (pv 0)) (pa_cons (pe_mkK M12 hr (by rfl) (pv 0)) (pa_cons (pe_mkK M13 hr (by rfl) (pv 0)) pa_nil)))))))
  (pss_one (ps_ret (pe_op op_cat (pv 1) (pe_lst (pa_cons (pe_mkK M14 hr (by rfl) (pv 0)) (pa_cons (pe_new0 PySem.F.excBase_IndexError qN gN kN (by rfl)) pa_nil))))))))), ?_⟩
    refine ⟨fun σ' H' => ∃ l xs, Same H H' ∧ H' l = some (.lst xs) ∧ XL H' [C0, C1, C2, C3, C4] xs ∧ σ' = [some v, some (.ref l)], ?_, ?_⟩
    · refine ⟨v, rfl, fun a0 H0 S0 X0 => ⟨v, rfl, fun a1 H1 S1 X1 => ⟨v, rfl, fun a2 H2 S2 X2 => ⟨v, rfl, fun a3 H3 S3 X3 => ⟨v, rfl, fun a4 H4 S4 X4 => ⟨(by show 5 ≤ sizeLine; decide), fun l hl => ?_⟩⟩⟩⟩⟩⟩
      have T4 := same_new (o := .lst [.ref a0, .ref a1, .ref a2, .ref a3, .ref a4]) hl
      have here := upd_same (H := H4) (a := l) (o := .lst [.ref a0, .ref a1, .ref a2, .ref a3, .ref a4])
      generalize upd H4 l (.lst [.ref a0, .ref a1, .ref a2, .ref a3, .ref a4]) = G at *
      have T3 := S4.trans T4
      have T2 := S3.trans T3
      have T1 := S2.trans T2
      have T0 := S1.trans T1
      have T := S0.trans T0
      have X : XL G [C0, C1, C2, C3, C4] [.ref a0, .ref a1, .ref a2, .ref a3, .ref a4] := ⟨⟨a0, rfl, X0.at_.same T0⟩, ⟨a1, rfl, X1.at_.same T1⟩, ⟨a2, rfl, X2.at_.same T2⟩, ⟨a3, rfl, X3.at_.same T3⟩, ⟨a4, rfl, X4.at_.same T4⟩, trivial⟩
      exact ⟨l, _, T, here, X, rfl⟩
    rintro _ J0 ⟨l0, xs0, S0, e0, x0, rfl⟩
    refine ⟨fun σ' H' => ∃ l xs, Same H H' ∧ H' l = some (.lst xs) ∧ XL H' [C0, C1, C2, C3, C4, C5, C6, C7, C8, C9] xs ∧ σ' = [some v, some (.ref l)], ?_, ?_⟩
    · refine ⟨.ref l0, rfl, ⟨v, rfl, fun a5 H5 S5 X5 => ⟨v, rfl, fun a6 H6 S6 X6 => ⟨v, rfl, fun a7 H7 S7 X7 => ⟨v, rfl, fun a8 H8 S8 X8 => ⟨v, rfl, fun a9 H9 S9 X9 => ⟨(by show 5 ≤ sizeLine; decide), fun l hl => ?_⟩⟩⟩⟩⟩⟩⟩
      have T9 := same_new (o := .lst [.ref a5, .ref a6, .ref a7, .ref a8, .ref a9]) hl
      have here := upd_same (H := H9) (a := l) (o := .lst [.ref a5, .ref a6, .ref a7, .ref a8, .ref a9])
      generalize upd H9 l (.lst [.ref a5, .ref a6, .ref a7, .ref a8, .ref a9]) = G at *
      have T8 := S9.trans T9
      have T7 := S8.trans T8
      have T6 := S7.trans T7
      have T5 := S6.trans T6
      have T := S5.trans T5
      have X : XL G [C5, C6, C7, C8, C9] [.ref a5, .ref a6, .ref a7, .ref a8, .ref a9] := ⟨⟨a5, rfl, X5.at_.same T5⟩, ⟨a6, rfl, X6.at_.same T6⟩, ⟨a7, rfl, X7.at_.same T7⟩, ⟨a8, rfl, X8.at_.same T8⟩, ⟨a9, rfl, X9.at_.same T9⟩, trivial⟩
      refine ⟨l0, l, xs0, _, rfl, rfl, T _ _ e0, here, (by rw [x0.len]; show 5 + 5 ≤ sizeLine; decide), fun p hp => ?_⟩
      have Y := XL.app (x0.same T) X
      have U := same_new (o := .lst (xs0 ++ [.ref a5, .ref a6, .ref a7, .ref a8, .ref a9])) hp
      exact ⟨p, _, (S0.trans T).trans U, upd_same, Y.same U, rfl⟩
    clear S0 e0 x0
    rintro _ J1 ⟨l0, xs0, S0, e0, x0, rfl⟩
    refine ⟨fun σ' H' => ∃ l xs, Same H H' ∧ H' l = some (.lst xs) ∧ XL H' [C0, C1, C2, C3, C4, C5, C6, C7, C8, C9, C10, C11, C12, C13] xs ∧ σ' = [some v, some (.ref l)], ?_, ?_⟩
    · refine ⟨.ref l0, rfl, ⟨v, rfl, fun a10 H10 S10 X10 => ⟨v, rfl, fun a11 H11 S11 X11 => ⟨v, rfl, fun a12 H12 S12 X12 => ⟨v, rfl, fun a13 H13 S13 X13 => ⟨(by show 4 ≤ sizeLine; decide), fun l hl => ?_⟩⟩⟩⟩⟩⟩
      have T13 := same_new (o := .lst [.ref a10, .ref a11, .ref a12, .ref a13]) hl
      have here := upd_same (H := H13) (a := l) (o := .lst [.ref a10, .ref a11, .ref a12, .ref a13])
      generalize upd H13 l (.lst [.ref a10, .ref a11, .ref a12, .ref a13]) = G at *
      have T12 := S13.trans T13
      have T11 := S12.trans T12
      have T10 := S11.trans T11
      have T := S10.trans T10
      have X : XL G [C10, C11, C12, C13] [.ref a10, .ref a11, .ref a12, .ref a13] := ⟨⟨a10, rfl, X10.at_.same T10⟩, ⟨a11, rfl, X11.at_.same T11⟩, ⟨a12, rfl, X12.at_.same T12⟩, ⟨a13, rfl, X13.at_.same T13⟩, trivial⟩
      refine ⟨l0, l, xs0, _, rfl, rfl, T _ _ e0, here, (by rw [x0.len]; show 10 + 4 ≤ sizeLine; decide), fun p hp => ?_⟩
      have Y := XL.app (x0.same T) X
      have U := same_new (o := .lst (xs0 ++ [.ref a10, .ref a11, .ref a12, .ref a13])) hp
      exact ⟨p, _, (S0.trans T).trans U, upd_same, Y.same U, rfl⟩
    clear S0 e0 x0
    rintro _ J2 ⟨l0, xs0, S0, e0, x0, rfl⟩
    refine ⟨.ref l0, rfl, ⟨v, rfl, fun a14 H14 S14 X14 => fun a15 h15 => ⟨(by show 2 ≤ sizeLine; decide), fun l hl => ?_⟩⟩⟩
    have S15 : Same H14 (upd H14 a15 (ExO (.ref C15) a15)) := same_new h15
    have X15 : XAt (upd H14 a15 (ExO (.ref C15) a15)) a15 C15 := .inr upd_same
    generalize upd H14 a15 (ExO (.ref C15) a15) = H15 at *
    have T15 := same_new (o := .lst [.ref a14, .ref a15]) hl
    have here := upd_same (H := H15) (a := l) (o := .lst [.ref a14, .ref a15])
    generalize upd H15 l (.lst [.ref a14, .ref a15]) = G at *
    have T14 := S15.trans T15
    have T := S14.trans T14
    have X : XL G [C14, C15] [.ref a14, .ref a15] := ⟨⟨a14, rfl, X14.at_.same T14⟩, ⟨a15, rfl, X15.same T15⟩, trivial⟩
    refine ⟨l0, l, xs0, _, rfl, rfl, T _ _ e0, here, (by rw [x0.len]; show 14 + 2 ≤ sizeLine; decide), fun p hp => ?_⟩
    have Y := XL.app (x0.same T) X
    have U := same_new (o := .lst (xs0 ++ [.ref a14, .ref a15])) hp
    exact q _ _ _ ((S0.trans T).trans U) upd_same (Y.same U)
theorem ok_kinds {f C0 C1 C2 C3 C4 C5 C6 C7 C8 C9 C10 C11 C12 C13 C14 C15 : Addr} {fd : FuncData} (F : Fun K "_law_kinds" "_law_kinds" sL_kinds f fd) (mi : mg "isinstance" = none) (mInvalidBox : mg "InvalidBox" = some (.ref C0)) (mInvalidSquare : mg "InvalidSquare" = some (.ref C1)) (mInvalidRegion : mg "InvalidRegion" = some (.ref C2)) (mInvalidNumber : mg "InvalidNumber" = some (.ref C3)) (mInvalidLoops : mg "InvalidLoops" = some (.ref C4)) (mInvalidAxis : mg "InvalidAxis" = some (.ref C5)) (mInvalidSpans : mg "InvalidSpans" = some (.ref C6)) (mInvalidName : mg "InvalidName" = some (.ref C7)) (mInvalidText : mg "InvalidText" = some (.ref C8)) (mInvalidLine : mg "InvalidLine" = some (.ref C9)) (mOutside : mg "Outside" = some (.ref C10)) (mUnbounded : mg "Unbounded" = some (.ref C11)) (mBlocked : mg "Blocked" = some (.ref C12)) (mTooMany : mg "TooMany" = some (.ref C13)) (mNoName : mg "NoName" = some (.ref C14)) (mNothingLeft : mg "NothingLeft" = some (.ref C15)) : FnOk P w K mg base CX0 (n + 1) f fd ["_law_e"] (spKinds K [C0, C1, C2, C3, C4, C5, C6, C7, C8, C9, C10, C11, C12, C13, C14, C15]) := by
  have nd := scKinds.nd
  refine F.ok scKinds (fun vs H Q E h => ?_) (fun cdv A outer st H vs Q E hr h => ?_)
  · obtain ⟨a, C, ks, rfl, _⟩ := h
    rfl
  · obtain ⟨a, C, ks, rfl, D, at_, kk, q⟩ := h
    refine ⟨_, (pss_cut (ps_set (i := 1) nd rfl (Or.inl rfl) (pe_lst (pa_cons (pe_callB call_isX (by rfl) mi (by decide +kernel) (pa_cons (pv 0) (pa_cons (pe_glob (v := .ref C0) (by rfl) mInvalidBox rfl) pa_nil))) (pa_cons (pe_callB call_isX (by rfl) mi (by decide +kernel) (pa_cons (pv 0) (pa_cons (pe_glob (v := .ref C1) (by rfl) mInvalidSquare rfl) pa_nil))) (pa_cons (pe_callB call_isX (by rfl) mi (by decide +kernel) (pa_cons (pv 0) (pa_cons (pe_glob (v := .ref C2) (by rfl) mInvalidRegion rfl) pa_nil))) pa_nil)))))
  (pss_cut (ps_set (i := 1) nd rfl (Or.inl rfl) (pe_op op_cat (pv 1) (pe_lst (pa_cons (pe_callB call_isX (by rfl) mi (by decide +kernel) (pa_cons (pv 0) (pa_cons (pe_glob (v := .ref C3) (by rfl) mInvalidNumber rfl) pa_nil))) (pa_cons (pe_callB call_isX (by rfl) mi (by decide +kernel) (pa_cons (pv 0) (pa_cons (pe_glob (v := .ref C4) (by rfl) mInvalidLoops rfl) pa_nil))) (pa_cons (pe_callB call_isX (by rfl) mi (by decide +kernel) (pa_cons (pv 0) (pa_cons (pe_glob (v := .ref C5) (by rfl) mInvalidAxis rfl) pa_nil))) pa_nil))))))
  (pss_cut (ps_set (i := 1) nd rfl (Or.inl rfl) (pe_op op_cat (pv 1) (pe_lst (pa_cons (pe_callB call_isX (by rfl) mi (by decide +kernel) (pa_cons (pv 0) (pa_cons (pe_glob (v := .ref C6) (by rfl) mInvalidSpans rfl) pa_nil))) (pa_cons (pe_callB call_isX (by rfl) mi (by decide +kernel) (pa_cons (pv 0) (pa_cons (pe_glob (v := .ref C7) (by rfl) mInvalidName rfl) pa_nil))) (pa_cons (pe_callB call_isX (by rfl) mi (by decide +kernel) (pa_cons (pv 0) (pa_cons (pe_glob (v := .ref C8) (by rfl) mInvalidText rfl) pa_nil))) pa_nil))))))
  (pss_cut (ps_set (i := 1) nd rfl (Or.inl rfl) (pe_op op_cat (pv 1) (pe_lst (pa_cons (pe_callB call_isX (by rfl) mi (by decide +kernel) (pa_cons (pv 0) (pa_cons (pe_glob (v := .ref C9) (by rfl) mInvalidLine rfl) pa_nil))) (pa_cons (pe_callB call_isX (by rfl) mi (by decide +kernel) (pa_cons (pv 0) (pa_cons (pe_glob (v := .ref C10) (by rfl) mOutside rfl) pa_nil))) (pa_cons (pe_callB call_isX (by rfl) mi (by decide +kernel) (pa_cons (pv 0) (pa_cons (pe_glob (v := .ref C11) (by rfl) mUnbounded rfl) pa_nil))) pa_nil))))))
  (pss_cut (ps_set (i := 1) nd rfl (Or.inl rfl) (pe_op op_cat (pv 1) (pe_lst (pa_cons (pe_callB call_isX (by rfl) mi (by decide +kernel) (pa_cons (pv 0) (pa_cons (pe_glob (v := .ref C12) (by rfl) mBlocked rfl) pa_nil))) (pa_cons (pe_callB call_isX (by rfl) mi (by decide +kernel) (pa_cons (pv 0) (pa_cons (pe_glob (v := .ref C13) (by rfl) mTooMany rfl) pa_nil))) (pa_cons (pe_callB call_isX (by rfl) mi (by decide +kernel) (pa_cons (pv 0) (pa_cons (pe_glob (v := .ref C14) (by rfl) mNoName rfl) pa_nil))) pa_nil))))))
  (pss_one (ps_ret (pe_op op_cat (pv 1) (pe_lst (pa_cons (pe_callB call_isX (by rfl) mi (by decide +kernel) (pa_cons (pv 0) (pa_cons (pe_glob (v := .ref C15) (by rfl) mNothingLeft rfl) pa_nil))) pa_nil)))))))))), ?_⟩
    refine ⟨fun σ' H' => ∃ l, Same H H' ∧ H' l = some (.lst [.bl (ks 0), .bl (ks 1), .bl (ks 2)]) ∧ σ' = [some (.ref a), some (.ref l)], ?_, ?_⟩
    · refine ⟨.ref a, rfl, a, C, .ref C0, _, ks 0, rfl, .own C0, D, at_, kk 0 (by decide), ⟨.ref a, rfl, a, C, .ref C1, _, ks 1, rfl, .own C1, D, at_, kk 1 (by decide), ⟨.ref a, rfl, a, C, .ref C2, _, ks 2, rfl, .own C2, D, at_, kk 2 (by decide), ⟨(by show 3 ≤ sizeLine; decide), fun l hl => ?_⟩⟩⟩⟩
      exact ⟨l, same_new hl, upd_same, rfl⟩
    rintro _ J0 ⟨l0, S0, e0, rfl⟩
    refine ⟨fun σ' H' => ∃ l, Same H H' ∧ H' l = some (.lst [.bl (ks 0), .bl (ks 1), .bl (ks 2), .bl (ks 3), .bl (ks 4), .bl (ks 5)]) ∧ σ' = [some (.ref a), some (.ref l)], ?_, ?_⟩
    · refine ⟨.ref l0, rfl, ⟨.ref a, rfl, a, C, .ref C3, _, ks 3, rfl, .own C3, D, (at_.same S0), kk 3 (by decide), ⟨.ref a, rfl, a, C, .ref C4, _, ks 4, rfl, .own C4, D, (at_.same S0), kk 4 (by decide), ⟨.ref a, rfl, a, C, .ref C5, _, ks 5, rfl, .own C5, D, (at_.same S0), kk 5 (by decide), ⟨(by show 3 ≤ sizeLine; decide), fun l hl => ?_⟩⟩⟩⟩⟩
      have T := same_new (o := .lst [.bl (ks 3), .bl (ks 4), .bl (ks 5)]) hl
      have here := upd_same (H := J0) (a := l) (o := .lst [.bl (ks 3), .bl (ks 4), .bl (ks 5)])
      generalize upd J0 l (.lst [.bl (ks 3), .bl (ks 4), .bl (ks 5)]) = G at *
      refine ⟨l0, l, _, _, rfl, rfl, T _ _ e0, here, (by show 3 + 3 ≤ sizeLine; decide), fun p hp => ?_⟩
      exact ⟨p, (S0.trans T).trans (same_new hp), upd_same, rfl⟩
    clear S0 e0
    rintro _ J1 ⟨l0, S0, e0, rfl⟩
    refine ⟨fun σ' H' => ∃ l, Same H H' ∧ H' l = some (.lst [.bl (ks 0), .bl (ks 1), .bl (ks 2), .bl (ks 3), .bl (ks 4), .bl (ks 5), .bl (ks 6), .bl (ks 7), .bl (ks 8)]) ∧ σ' = [some (.ref a), some (.ref l)], ?_, ?_⟩
    · refine ⟨.ref l0, rfl, ⟨.ref a, rfl, a, C, .ref C6, _, ks 6, rfl, .own C6, D, (at_.same S0), kk 6 (by decide), ⟨.ref a, rfl, a, C, .ref C7, _, ks 7, rfl, .own C7, D, (at_.same S0), kk 7 (by decide), ⟨.ref a, rfl, a, C, .ref C8, _, ks 8, rfl, .own C8, D, (at_.same S0), kk 8 (by decide), ⟨(by show 3 ≤ sizeLine; decide), fun l hl => ?_⟩⟩⟩⟩⟩
      have T := same_new (o := .lst [.bl (ks 6), .bl (ks 7), .bl (ks 8)]) hl
      have here := upd_same (H := J1) (a := l) (o := .lst [.bl (ks 6), .bl (ks 7), .bl (ks 8)])
      generalize upd J1 l (.lst [.bl (ks 6), .bl (ks 7), .bl (ks 8)]) = G at *
      refine ⟨l0, l, _, _, rfl, rfl, T _ _ e0, here, (by show 6 + 3 ≤ sizeLine; decide), fun p hp => ?_⟩
      exact ⟨p, (S0.trans T).trans (same_new hp), upd_same, rfl⟩
    clear S0 e0
    rintro _ J2 ⟨l0, S0, e0, rfl⟩
    refine ⟨fun σ' H' => ∃ l, Same H H' ∧ H' l = some (.lst [.bl (ks 0), .bl (ks 1), .bl (ks 2), .bl (ks 3), .bl (ks 4), .bl (ks 5), .bl (ks 6), .bl (ks 7), .bl (ks 8), .bl (ks 9), .bl (ks 10), .bl (ks 11)]) ∧ σ' = [some (.ref a), some (.ref l)], ?_, ?_⟩
    · refine ⟨.ref l0, rfl, ⟨.ref a, rfl, a, C, .ref C9, _, ks 9, rfl, .own C9, D, (at_.same S0), kk 9 (by decide), ⟨.ref a, rfl, a, C, .ref C10, _, ks 10, rfl, .own C10, D, (at_.same S0), kk 10 (by decide), ⟨.ref a, rfl, a, C, .ref C11, _, ks 11, rfl, .own C11, D, (at_.same S0), kk 11 (by decide), ⟨(by show 3 ≤ sizeLine; decide), fun l hl => ?_⟩⟩⟩⟩⟩
      have T := same_new (o := .lst [.bl (ks 9), .bl (ks 10), .bl (ks 11)]) hl
      have here := upd_same (H := J2) (a := l) (o := .lst [.bl (ks 9), .bl (ks 10), .bl (ks 11)])
      generalize upd J2 l (.lst [.bl (ks 9), .bl (ks 10), .bl (ks 11)]) = G at *
      refine ⟨l0, l, _, _, rfl, rfl, T _ _ e0, here, (by show 9 + 3 ≤ sizeLine; decide), fun p hp => ?_⟩
      exact ⟨p, (S0.trans T).trans (same_new hp), upd_same, rfl⟩
    clear S0 e0
    rintro _ J3 ⟨l0, S0, e0, rfl⟩
    refine ⟨fun σ' H' => ∃ l, Same H H' ∧ H' l = some (.lst [.bl (ks 0), .bl (ks 1), .bl (ks 2), .bl (ks 3), .bl (ks 4), .bl (ks 5), .bl (ks 6), .bl (ks 7), .bl (ks 8), .bl (ks 9), .bl (ks 10), .bl (ks 11), .bl (ks 12), .bl (ks 13), .bl (ks 14)]) ∧ σ' = [some (.ref a), some (.ref l)], ?_, ?_⟩
    · refine ⟨.ref l0, rfl, ⟨.ref a, rfl, a, C, .ref C12, _, ks 12, rfl, .own C12, D, (at_.same S0), kk 12 (by decide), ⟨.ref a, rfl, a, C, .ref C13, _, ks 13, rfl, .own C13, D, (at_.same S0), kk 13 (by decide), ⟨.ref a, rfl, a, C, .ref C14, _, ks 14, rfl, .own C14, D, (at_.same S0), kk 14 (by decide), ⟨(by show 3 ≤ sizeLine; decide), fun l hl => ?_⟩⟩⟩⟩⟩
      have T := same_new (o := .lst [.bl (ks 12), .bl (ks 13), .bl (ks 14)]) hl
      have here := upd_same (H := J3) (a := l) (o := .lst [.bl (ks 12), .bl (ks 13), .bl (ks 14)])
      generalize upd J3 l (.lst [.bl (ks 12), .bl (ks 13), .bl (ks 14)]) = G at *
      refine ⟨l0, l, _, _, rfl, rfl, T _ _ e0, here, (by show 12 + 3 ≤ sizeLine; decide), fun p hp => ?_⟩
      exact ⟨p, (S0.trans T).trans (same_new hp), upd_same, rfl⟩
    clear S0 e0
    rintro _ J4 ⟨l0, S0, e0, rfl⟩
    refine ⟨.ref l0, rfl, ⟨.ref a, rfl, a, C, .ref C15, _, ks 15, rfl, .own C15, D, (at_.same S0), kk 15 (by decide), ⟨(by show 1 ≤ sizeLine; decide), fun l hl => ?_⟩⟩⟩
    have T := same_new (o := .lst [.bl (ks 15)]) hl
    have here := upd_same (H := J4) (a := l) (o := .lst [.bl (ks 15)])
    generalize upd J4 l (.lst [.bl (ks 15)]) = G at *
    refine ⟨l0, l, _, _, rfl, rfl, T _ _ e0, here, (by show 15 + 1 ≤ sizeLine; decide), fun p hp => ?_⟩
    exact q _ _ ((S0.trans T).trans (same_new hp)) upd_same
theorem ok_roots {f CB : Addr} {fd : FuncData} (F : Fun K "_law_roots" "_law_roots" sL_roots f fd) (mi : mg "isinstance" = none) (mValueError : mg "ValueError" = none) (mBoxError : mg "BoxError" = some (.ref CB)) (mLookupError : mg "LookupError" = none) (mKeyError : mg "KeyError" = none) (mIndexError : mg "IndexError" = none) (mRuntimeError : mg "RuntimeError" = none) (mOverflowError : mg "OverflowError" = none) : FnOk P w K mg base CX0 (n + 1) f fd ["_law_e"] (spRoots K CB) := by
  have nd := scRoots.nd
  refine F.ok scRoots (fun vs H Q E h => ?_) (fun cdv A outer st H vs Q E hr h => ?_)
  · obtain ⟨a, C, ks, rfl, _⟩ := h
    rfl
  · obtain ⟨a, C, ks, rfl, D, at_, kk, q⟩ := h
    refine ⟨_, (pss_cut (ps_set (i := 1) nd rfl (Or.inl rfl) (pe_lst (pa_cons (pe_callB call_isX (by rfl) mi (by decide +kernel) (pa_cons (pv 0) (pa_cons (pe_bltn (v := .ty "ValueError") (by rfl) mValueError (by decide +kernel) rfl) pa_nil))) (pa_cons (pe_callB call_isX (by rfl) mi (by decide +kernel) (pa_cons (pv 0) (pa_cons (pe_glob (v := .ref CB) (by rfl) mBoxError rfl) pa_nil))) (pa_cons (pe_callB call_isX (by rfl) mi (by decide +kernel) (pa_cons (pv 0) (pa_cons (pe_bltn (v := .ty "LookupError") (by rfl) mLookupError (by decide +kernel) rfl) pa_nil))) (pa_cons (pe_callB call_isX (by rfl) mi (by decide +kernel) (pa_cons (pv 0) (pa_cons (pe_bltn (v := .ty "KeyError") (by rfl) mKeyError (by decide +kernel) rfl) pa_nil))) pa_nil))))))
  (pss_one (ps_ret (pe_op op_cat (pv 1) (pe_lst (pa_cons (pe_callB call_isX (by rfl) mi (by decide +kernel) (pa_cons (pv 0) (pa_cons (pe_bltn (v := .ty "IndexError") (by rfl) mIndexError (by decide +kernel) rfl) pa_nil))) (pa_cons (pe_callB call_isX (by rfl) mi (by decide +kernel) (pa_cons (pv 0) (pa_cons (pe_bltn (v := .ty "RuntimeError") (by rfl) mRuntimeError (by decide +kernel) rfl) pa_nil))) (pa_cons (pe_callB call_isX (by rfl) mi (by decide +kernel) (pa_cons (pv 0) (pa_cons (pe_bltn (v := .ty "OverflowError") (by rfl) mOverflowError (by decide +kernel) rfl) pa_nil))) pa_nil)))))))), ?_⟩
    refine ⟨fun σ' H' => ∃ l, Same H H' ∧ H' l = some (.lst [.bl (ks 0), .bl (ks 1), .bl (ks 2), .bl (ks 3)]) ∧ σ' = [some (.ref a), some (.ref l)], ?_, ?_⟩
    · refine ⟨.ref a, rfl, a, C, .ty "ValueError", _, ks 0, rfl, .ty "ValueError", D, at_, kk 0 (by decide), ⟨.ref a, rfl, a, C, .ref CB, _, ks 1, rfl, .own CB, D, at_, kk 1 (by decide), ⟨.ref a, rfl, a, C, .ty "LookupError", _, ks 2, rfl, .ty "LookupError", D, at_, kk 2 (by decide), ⟨.ref a, rfl, a, C, .ty "KeyError", _, ks 3, rfl, .ty "KeyError", D, at_, kk 3 (by decide), ⟨(by show 4 ≤ sizeLine; decide), fun l hl => ?_⟩⟩⟩⟩⟩
      exact ⟨l, same_new hl, upd_same, rfl⟩
    rintro _ J0 ⟨l0, S0, e0, rfl⟩
    refine ⟨.ref l0, rfl, ⟨.ref a, rfl, a, C, .ty "IndexError", _, ks 4, rfl, .ty "IndexError", D, (at_.same S0), kk 4 (by decide), ⟨.ref a, rfl, a, C, .ty "RuntimeError", _, ks 5, rfl, .ty "RuntimeError", D, (at_.same S0), kk 5 (by decide), ⟨.ref a, rfl, a, C, .ty "OverflowError", _, ks 6, rfl, .ty "OverflowError", D, (at_.same S0), kk 6 (by decide), ⟨(by show 3 ≤ sizeLine; decide), fun l hl => ?_⟩⟩⟩⟩⟩
    have T := same_new (o := .lst [.bl (ks 4), .bl (ks 5), .bl (ks 6)]) hl
    have here := upd_same (H := J0) (a := l) (o := .lst [.bl (ks 4), .bl (ks 5), .bl (ks 6)])
    generalize upd J0 l (.lst [.bl (ks 4), .bl (ks 5), .bl (ks 6)]) = G at *
    refine ⟨l0, l, _, _, rfl, rfl, T _ _ e0, here, (by show 4 + 3 ≤ sizeLine; decide), fun p hp => ?_⟩
    exact q _ _ ((S0.trans T).trans (same_new hp)) upd_same
end
end Vf

set_option Elab.async false
set_option linter.all false
set_option maxRecDepth 100000
/-! Walks told once: of a comprehension's or a loop's turns, over anything. -/
namespace Vf
open PySem PySem.Spec PyProof.Rows L2

/-- turns of a comprehension (or of an inner one): n of them, Pv what holds -/
theorem wk {J : It} {B : V → Hp → (Hp → Prop) → Prop} {Qd : Hp → Prop} {H : Hp} (n : Nat) (Pv : Nat → Hp → Prop) (h0 : Pv 0 H)
    (go : ∀ i H, i < n → Pv i H → J.go i H ∧ ∀ x H', J.yld i H x H' → B x H' (Pv (i + 1))) (hd : ∀ H, Pv n H → J.stop n H ∧ Qd H) :
    ∃ W : Nat → Nat → Hp → Prop, (∃ m, W 0 m H) ∧ ∀ i m H, W i m H → (J.stop i H ∧ Qd H) ∨ (J.go i H ∧ ∃ Nx : Hp → Prop, (∀ H', Nx H' → ∃ m', m' < m ∧ W (i + 1) m' H') ∧ ∀ x H', J.yld i H x H' → B x H' Nx) := by
  refine ⟨fun i m H => m = n - i ∧ i ≤ n ∧ Pv i H, ⟨n, rfl, Nat.zero_le _, h0⟩, ?_⟩
  rintro i m H ⟨rfl, hi, p⟩
  by_cases h : i < n
  · obtain ⟨g1, g2⟩ := go i H h p
    exact .inr ⟨g1, Pv (i + 1), fun H' q => ⟨n - (i + 1), by omega, rfl, h, q⟩, g2⟩
  · obtain rfl : i = n := by omega
    exact .inl (hd H p)
/-- turns of a for loop -/
theorem wkS {J : It} {B : V → L2.St → Hp → (L2.St → Hp → Prop) → Prop} {Qd : L2.St → Hp → Prop} {σ : L2.St} {H : Hp} (n : Nat) (Pv : Nat → L2.St → Hp → Prop) (h0 : Pv 0 σ H)
    (go : ∀ i σ H, i < n → Pv i σ H → J.go i H ∧ ∀ x H', J.yld i H x H' → B x σ H' (Pv (i + 1))) (hd : ∀ σ H, Pv n σ H → J.stop n H ∧ Qd σ H) :
    ∃ W : Nat → Nat → L2.St → Hp → Prop, (∃ m, W 0 m σ H) ∧ ∀ i m σ H, W i m σ H → (J.stop i H ∧ Qd σ H) ∨ (J.go i H ∧ ∃ N : L2.St → Hp → Prop, (∀ σ' H', N σ' H' → ∃ m', m' < m ∧ W (i + 1) m' σ' H') ∧ ∀ x H', J.yld i H x H' → B x σ H' N) := by
  refine ⟨fun i m σ H => m = n - i ∧ i ≤ n ∧ Pv i σ H, ⟨n, rfl, Nat.zero_le _, h0⟩, ?_⟩
  rintro i m σ H ⟨rfl, hi, p⟩
  by_cases h : i < n
  · obtain ⟨g1, g2⟩ := go i σ H h p
    exact .inr ⟨g1, Pv (i + 1), fun σ' H' q => ⟨n - (i + 1), by omega, rfl, h, q⟩, g2⟩
  · obtain rfl : i = n := by omega
    exact .inl (hd σ H p)
section
variable {K : PySem.W.Frag} {H : Hp} {a : Addr} {xs : List V} {i : Nat}
/-- a tuple's turn -/
theorem tt_go {P : V → Hp → Prop} (h : SqT K H a xs) (hi : i < xs.length) (p : ∀ x, xs[i]? = some x → P x H) : (Itt K a).go i H ∧ ∀ x H', (Itt K a).yld i H x H' → P x H' := by
  refine ⟨⟨xs, xs[i], h, List.getElem?_eq_getElem hi⟩, ?_⟩
  rintro x H' ⟨rfl, e⟩
  exact p x (e xs h)
theorem tt_end (h : SqT K H a xs) : (Itt K a).stop xs.length H := ⟨xs, h, Nat.le_refl _⟩
theorem tl_go {P : V → Hp → Prop} (h : SqL K H a xs) (hi : i < xs.length) (p : ∀ x, xs[i]? = some x → P x H) : (Itl K a).go i H ∧ ∀ x H', (Itl K a).yld i H x H' → P x H' := by
  refine ⟨⟨xs, xs[i], h, List.getElem?_eq_getElem hi⟩, ?_⟩
  rintro x H' ⟨rfl, e⟩
  exact p x (e xs h)
theorem tl_end (h : SqL K H a xs) : (Itl K a).stop xs.length H := ⟨xs, h, Nat.le_refl _⟩
theorem tc_go {P : V → Hp → Prop} {lo c : Int} {n : Nat} (hi : i < n) (p : P (.int (lo + (i : Nat) * c)) H) : (Itc lo c n).go i H ∧ ∀ x H', (Itc lo c n).yld i H x H' → P x H' := by
  refine ⟨hi, ?_⟩
  rintro x H' ⟨rfl, rfl⟩
  exact p
theorem tc_end {lo c : Int} {n : Nat} : (Itc lo c n).stop n H := Nat.le_refl n
theorem tr_go {P : V → Hp → Prop} {lo : Int} {n : Nat} (hi : i < n) (p : P (.int (lo + i)) H) : (Itr lo n).go i H ∧ ∀ x H', (Itr lo n).yld i H x H' → P x H' := by
  refine ⟨hi, ?_⟩
  rintro x H' ⟨rfl, rfl⟩
  exact p
theorem tr_end {lo : Int} {n : Nat} : (Itr lo n).stop n H := Nat.le_refl n
end
section
variable {K : PySem.W.Frag} {H : Hp}
/-- what a tuple's data tells -/
theorem dp_tup {v : V} {ds : List PyData} (h : Dp K H v (.tuple ds)) : ∃ a xs, v = .ref a ∧ SqT K H a xs ∧ DpAll K H xs ds := by
  cases h with
  | tup hs ha => exact ⟨_, _, rfl, hs, ha⟩
theorem dp_lst {v : V} {ds : List PyData} (h : Dp K H v (.list ds)) : ∃ a xs, v = .ref a ∧ SqL K H a xs ∧ DpAll K H xs ds := by
  cases h with
  | lst hs ha => exact ⟨_, _, rfl, hs, ha⟩
theorem dp_int {v : V} {i : Int} (h : Dp K H v (.int i)) : v = .int i := by
  cases h
  rfl
theorem dp_bool {v : V} {b : Bool} (h : Dp K H v (.bool b)) : v = .bl b := by
  cases h
  rfl
theorem dpAll_two {xs : List V} {d e : PyData} (h : DpAll K H xs [d, e]) : ∃ x y, xs = [x, y] ∧ Dp K H x d ∧ Dp K H y e := by
  cases h with
  | cons a t =>
    cases t with
    | cons b t =>
      cases t
      exact ⟨_, _, rfl, a, b⟩
theorem dpAll_three {xs : List V} {d e f : PyData} (h : DpAll K H xs [d, e, f]) : ∃ x y z, xs = [x, y, z] ∧ Dp K H x d ∧ Dp K H y e ∧ Dp K H z f := by
  cases h with
  | cons a t =>
    obtain ⟨y, z, rfl, b, c⟩ := dpAll_two t
    exact ⟨_, _, _, rfl, a, b, c⟩
theorem dpAll_four {xs : List V} {d e f g : PyData} (h : DpAll K H xs [d, e, f, g]) : ∃ x y z w, xs = [x, y, z, w] ∧ Dp K H x d ∧ Dp K H y e ∧ Dp K H z f ∧ Dp K H w g := by
  cases h with
  | cons a t =>
    obtain ⟨y, z, w, rfl, b, c, k⟩ := dpAll_three t
    exact ⟨_, _, _, _, rfl, a, b, c, k⟩
theorem dpAll_at : ∀ {ds : List PyData} {vs : List V} {i : Nat} {d : PyData}, DpAll K H vs ds → ds[i]? = some d → ∃ v, vs[i]? = some v ∧ Dp K H v d
  | [], _, _, _, .nil, h => by simp at h
  | _ :: _, _, 0, _, .cons hd _, h => by
    simp at h
    subst h
    exact ⟨_, rfl, hd⟩
  | _ :: _, _, i + 1, _, .cons _ t, h => by
    obtain ⟨v, h1, h2⟩ := dpAll_at (i := i) t (by simpa using h)
    exact ⟨v, by simpa using h1, h2⟩
theorem dp_pair {v : V} {i j : Int} (h : Dp K H v (.tuple [.int i, .int j])) : ∃ a, v = .ref a ∧ SqT K H a [.int i, .int j] := by
  obtain ⟨a, xs, rfl, hs, ha⟩ := dp_tup h
  obtain ⟨x, y, rfl, h1, h2⟩ := dpAll_two ha
  obtain rfl := dp_int h1
  obtain rfl := dp_int h2
  exact ⟨a, rfl, hs⟩
end

theorem ixN_last (n : Nat) : ixN (n + 1) (-1) = some n := by
  unfold ixN
  rw [if_neg (by omega), if_pos (by omega)]
  congr 1
  omega
theorem set_last {α : Type} (l : List α) (a b : α) : (l ++ [a]).set l.length b = l ++ [b] := by
  rw [List.set_append_right _ _ (Nat.le_refl _), Nat.sub_self]
  rfl
theorem nil_or_snoc {α : Type} (l : List α) : l = [] ∨ ∃ r z, l = r ++ [z] := by
  by_cases h : l = []
  · exact .inl h
  · exact .inr ⟨l.dropLast, l.getLast h, (List.dropLast_concat_getLast h).symm⟩
/-- range(0, n, 2), n even -/
theorem size_two {n m : Nat} (h : n = 2 * m) : Builtin.Range.rangeSize 0 (n : Int) 2 = m := by
  unfold Builtin.Range.rangeSize
  rw [if_pos (by decide)]
  by_cases z : (0 : Int) < (n : Int)
  · rw [if_pos z]
    omega
  · rw [if_neg z]
    omega
theorem rgc_two {n m : Nat} (h : n = 2 * m) (hn : n ≤ 1000000) : RgC 0 (n : Int) 2 m := by
  refine ⟨by decide, by decide, ?_, size_two h⟩
  unfold Builtin.Range.small
  rw [size_two h]
  have f : ∀ i : Int, -(2 ^ 63) ≤ i → i < 2 ^ 63 → Builtin.Range.rangeFitsLong i = true := fun i h1 h2 => by
    unfold Builtin.Range.rangeFitsLong
    rw [decide_eq_true h1, decide_eq_true h2]
    rfl
  rw [f 0 (by omega) (by omega), f 2 (by omega) (by omega), f (n : Int) (by omega) (by omega), f (m : Int) (by omega) (by omega)]
  rw [show (if (2 : Int) > 0 then Builtin.Range.rangeFitsLong ((n : Int) + (2 - 1)) else Builtin.Range.rangeFitsLong ((n : Int) + (2 + 1))) = true by
    rw [if_pos (by decide)]
    exact f _ (by omega) (by omega)]
  simp
/-! readings opened by one step -/
section
variable {σ : L2.St} {H : Hp} {Q : VK} {D : Ends}
theorem tAsg_eq {te : TE} {g : TG} : tAsg te g D σ H = te σ H fun x H1 => g x σ H1 D.nx := rfl
theorem tCB_eq {r : List V → Hp → VK → Prop} {t : TA} : tCB r t σ H Q = t σ H fun vs H1 => r vs H1 Q := rfl
theorem tCons_eq {ta : TE} {tr : TA} {Q : List V → Hp → Prop} : tCons ta tr σ H Q = ta σ H fun x H1 => tr σ H1 fun xs H2 => Q (x :: xs) H2 := rfl
theorem tOp_eq {r : R2} {ta tb : TE} : tOp r ta tb σ H Q = ta σ H fun x H1 => tb σ H1 fun y H2 => r x y H2 Q := rfl
/-- a test with one answer, then its branch -/
theorem tIfS_of {tc : L2.St → Hp → (Bool → Hp → Prop) → Prop} {t u : TS} (b : Bool) (h : ∀ Kt : Bool → Hp → Prop, Kt b H → tc σ H Kt) (h2 : if b = true then t D σ H else u D σ H) : tIfS tc t u D σ H := h _ h2
theorem tRet_eq {te : TE} : tRet te D σ H = te σ H D.rt := rfl
end
end Vf

set_option Elab.async false
set_option linter.all false
set_option maxRecDepth 100000
set_option maxHeartbeats 4000000
/-! Law k02: the classes that are due. -/
namespace Vf
open PySem PySem.Spec PyProof.Rows L2 PySem.W
open C8 (pss_cut tCut)
def dueW : List PySem.Str := ["ValueError BoxError", "ValueError BoxError", "ValueError BoxError", "ValueError BoxError", "ValueError BoxError", "ValueError BoxError", "ValueError BoxError", "ValueError BoxError", "ValueError BoxError", "ValueError BoxError", "ValueError BoxError",
  "RuntimeError", "RuntimeError", "OverflowError", "LookupError KeyError", "LookupError IndexError"]
def dueN : List PySem.Str := ["ValueError", "BoxError", "LookupError", "KeyError", "IndexError", "RuntimeError", "OverflowError"]
def dueB (n j : Nat) : Bool := inV (.str (dueN.getD j "")) ((Txt.split (dueW.getD n "") " ").map V.str)
theorem due_short : dueW.all (fun x => decide (x.length + 2 ≤ sizeLine)) = true := by decide +kernel
def spDue : Sp := fun vs H Q _ => ∃ n : Nat, vs = [.int n] ∧ n < 16 ∧ ∀ l H', Same H H' → H' l = some (.lst ((List.range 7).map fun j => .bl (dueB n j))) → Q (.ref l) H'
section
variable {P : Program} {w : World} {K : Frag} {mg : PySem.Str → Option Value} {base : Heap} {n : Nat}
theorem scDue : FnScope ["_law_at", "_law_words", "_law_named", "_law_name"] ["_law_at"] (defScope sL_due) := ⟨rfl, rfl, rfl, by decide +kernel, rfl, by decide +kernel, by decide +kernel⟩
theorem ok_due {f : Addr} {fd : FuncData} (F : Fun K "_law_due" "_law_due" sL_due f fd) : FnOk P w K mg base CX0 (n + 1) f fd ["_law_at"] spDue := by
  have nd := scDue.nd
  refine F.ok scDue (fun vs H Q E h => ?_) (fun cdv A outer st H vs Q E hr h => ?_)
  · obtain ⟨m, rfl, _⟩ := h
    rfl
  · obtain ⟨m, rfl, m16, q⟩ := h
    refine ⟨_, (pss_cut (ps_set (i := 1) nd rfl (Or.inr rfl) (pe_op op_cat (pe_op op_cat (pe_op op_rep (pe_lst (pa_cons pe_str pa_nil)) pe_int) (pe_op op_rep (pe_lst (pa_cons pe_str pa_nil)) pe_int)) (pe_lst (pa_cons pe_str (pa_cons pe_str pa_nil)))))
  (pss_cut (ps_expr (pe_bm PySem.F.plainAttrs_list PySem.F.slot_list_append PySem.F.type_list_append mt_append (pv 1) (pa_cons pe_str pa_nil)))
  (pss_cut (ps_set (i := 2) nd rfl (Or.inl rfl) (pe_lst (pa_cons pe_str (pa_cons pe_str (pa_cons pe_str (pa_cons pe_str (pa_cons pe_str (pa_cons pe_str (pa_cons pe_str pa_nil)))))))))
  (pss_one (ps_ret (pe_lc (own := [("_law_name", 3)]) (g := gName 3) (tt := tYes) rfl nd (pi_list (pv 2)) (blkOk_by (N := ["_law_at", "_law_words", "_law_named", "_law_name"]) (sc := defScope sL_due) (by decide +kernel)) (fun _ _ _ _ _ => (pg_name (i := 3) nd rfl (Or.inl rfl))) (fun _ _ _ _ _ => pts_nil) (fun _ _ _ _ _ => (pe_cmpR (r := rIn K false) op_in_seq (pv 3) (pe_split (pe_ix (r := rIxL K) ix_list (pv 1) (pv 0) (fun _ _ => rfl)) pe_str) (by rfl))))))))), ?_⟩
    refine ⟨fun σ' H' => ∃ l, H l = none ∧ Same H H' ∧ H' l = some (.lst ((dueW.take 15).map V.str)) ∧ σ' = [some (.int m), some (.ref l), none, none], ?_, ?_⟩
    · refine ⟨(by show 1 ≤ sizeLine; decide), fun l1 h1 => ⟨l1, 11, _, rfl, rfl, upd_same, by decide, by decide, (by show 1 * 11 ≤ sizeLine; decide), fun l2 h2 => ?_⟩⟩
      have S2 := (same_new (o := .lst [.str "ValueError BoxError"]) h1).trans (same_new (o := .lst (List.replicate (11 : Int).toNat [V.str "ValueError BoxError"]).flatten) h2)
      have e2 := upd_same (H := upd H l1 (.lst [.str "ValueError BoxError"])) (a := l2) (o := .lst (List.replicate (11 : Int).toNat [V.str "ValueError BoxError"]).flatten)
      generalize upd (upd H l1 (.lst [.str "ValueError BoxError"])) l2 (.lst (List.replicate (11 : Int).toNat [V.str "ValueError BoxError"]).flatten) = H2 at *
      refine ⟨(by show 1 ≤ sizeLine; decide), fun l3 h3 => ⟨l3, 2, _, rfl, rfl, upd_same, by decide, by decide, (by show 1 * 2 ≤ sizeLine; decide), fun l4 h4 => ?_⟩⟩
      have S4 := (same_new (o := .lst [.str "RuntimeError"]) h3).trans (same_new (o := .lst (List.replicate (2 : Int).toNat [V.str "RuntimeError"]).flatten) h4)
      have e4 := upd_same (H := upd H2 l3 (.lst [.str "RuntimeError"])) (a := l4) (o := .lst (List.replicate (2 : Int).toNat [V.str "RuntimeError"]).flatten)
      generalize upd (upd H2 l3 (.lst [.str "RuntimeError"])) l4 (.lst (List.replicate (2 : Int).toNat [V.str "RuntimeError"]).flatten) = H4 at *
      refine ⟨l2, l4, _, _, rfl, rfl, S4 _ _ e2, e4, (by show 11 + 2 ≤ sizeLine; decide), fun l5 h5 => ?_⟩
      have S5 := same_new (o := .lst ((List.replicate (11 : Int).toNat [V.str "ValueError BoxError"]).flatten ++ (List.replicate (2 : Int).toNat [V.str "RuntimeError"]).flatten)) h5
      have e5 := upd_same (H := H4) (a := l5) (o := .lst ((List.replicate (11 : Int).toNat [V.str "ValueError BoxError"]).flatten ++ (List.replicate (2 : Int).toNat [V.str "RuntimeError"]).flatten))
      generalize upd H4 l5 (.lst ((List.replicate (11 : Int).toNat [V.str "ValueError BoxError"]).flatten ++ (List.replicate (2 : Int).toNat [V.str "RuntimeError"]).flatten)) = H5 at *
      refine ⟨(by show 2 ≤ sizeLine; decide), fun l6 h6 => ⟨l5, l6, _, _, rfl, rfl, same_new h6 _ _ e5, upd_same, (by show 13 + 2 ≤ sizeLine; decide), fun l7 h7 => ?_⟩⟩
      have far : H l7 = none := by
        cases e : H l7 with
        | none => rfl
        | some o =>
          have z := same_new (o := .lst [.str "OverflowError", .str "LookupError KeyError"]) h6 _ _ (S5 _ _ (S4 _ _ (S2 _ _ e)))
          rw [h7] at z
          cases z
      exact ⟨l7, far, (((S2.trans S4).trans S5).trans (same_new h6)).trans (same_new h7), upd_same, rfl⟩
    rintro _ H1 ⟨l, far, S1, e1, rfl⟩
    refine ⟨fun σ' H' => Same H H' ∧ H' l = some (.lst (dueW.map V.str)) ∧ σ' = [some (.int m), some (.ref l), none, none], ?_, ?_⟩
    · refine ⟨.ref l, rfl, .inl ⟨rfl, _, .inl (.inl e1)⟩, ?_⟩
      refine ⟨l, _, .str "LookupError IndexError", rfl, rfl, e1, (by show 15 < sizeLine; decide), ?_⟩
      refine ⟨fun b o e => ?_, upd_same, rfl⟩
      rw [upd_ne (ne_of_none e far)]
      exact S1 _ _ e
    clear e1 S1
    rintro _ H2 ⟨S2, e2, rfl⟩
    refine ⟨fun σ' H' => ∃ k, Same H H' ∧ H' l = some (.lst (dueW.map V.str)) ∧ H' k = some (.lst (dueN.map V.str)) ∧ σ' = [some (.int m), some (.ref l), some (.ref k), none], ?_, ?_⟩
    · exact ⟨(by show 7 ≤ sizeLine; decide), fun k hk => ⟨k, S2.trans (same_new hk), same_new hk _ _ e2, upd_same, rfl⟩⟩
    rintro _ H3 ⟨k, S3, e3, ek, rfl⟩
    have hl : SqL K H3 k (dueN.map V.str) := .inl (.inl ek)
    refine ⟨.ref k, rfl, k, rfl, ⟨_, hl⟩, fun D hD => ?_⟩
    refine lc_list (K := K) (a := k) (xs := dueN.map V.str) (fun i H' => Same H3 H' ∧ H' D = some (.lst ((List.range i).map fun j => .bl (dueB m j)))) ⟨same_new hD, upd_same⟩ (fun i H' _ z => .inl (.inl (z.1 _ _ ek))) (fun i x H' hx z => ?_) (fun H' z => q D H' (S3.trans z.1) z.2)
    obtain ⟨S4, eD⟩ := z
    have i7 : i < 7 := by
      have z := (List.getElem?_eq_some_iff.mp hx).1
      rwa [List.length_map] at z
    have xi : x = .str (dueN.getD i "") := by
      rw [List.getElem?_map] at hx
      match i, i7, hx with
      | 0, _, hx => cases hx; rfl
      | 1, _, hx => cases hx; rfl
      | 2, _, hx => cases hx; rfl
      | 3, _, hx => cases hx; rfl
      | 4, _, hx => cases hx; rfl
      | 5, _, hx => cases hx; rfl
      | 6, _, hx => cases hx; rfl
    subst xi
    have wi : (dueW.map V.str)[m]? = some (.str (dueW.getD m "")) := by
      rw [List.getElem?_map, List.getD_eq_getElem?_getD]
      have z : m < dueW.length := m16
      rw [List.getElem?_eq_getElem z] <;> rfl
    have short : (dueW.getD m "").length + 2 ≤ sizeLine := by
      have z : m < dueW.length := m16
      have y := List.all_eq_true.mp due_short (dueW[m]) (List.getElem_mem z)
      rw [List.getD_eq_getElem?_getD, List.getElem?_eq_getElem z]
      exact of_decide_eq_true y
    refine ⟨rfl, ?_⟩
    refine ⟨.str (dueN.getD i ""), rfl, .ref l, rfl, .int m, rfl, l, _, (m : Int), .str (dueW.getD m ""), rfl, rfl, .inl (.inl (S4 _ _ e3)), atI_nat wi, ⟨_, rfl⟩, ?_⟩
    refine ⟨dueW.getD m "", " ", rfl, rfl, by decide, short, fun p hp => ?_⟩
    have S5 := same_new (o := .lst ((Txt.split (dueW.getD m "") " ").map V.str)) hp
    refine ⟨p, _, rfl, .inl (.inl (.inl upd_same)), rfl, (by rw [List.all_map]; exact List.all_eq_true.mpr fun _ _ => rfl), ?_⟩
    refine ⟨_, S5 _ _ eD, (by rw [List.length_map, List.length_range]; exact Nat.lt_trans i7 (by decide)), ?_⟩
    refine ⟨fun b o e => ?_, ?_⟩
    · rw [upd_ne (ne_of_none e hD)]
      exact S5 _ _ (S4 _ _ e)
    · rw [upd_same, List.range_succ, List.map_append]
      rfl
end
end Vf

set_option Elab.async false
set_option linter.all false
set_option maxRecDepth 100000
/-! repr of a dict whose keys are ints and texts, its values data. -/
namespace Vf
open PySem PySem.Spec PyProof.Rows L2
def keyD : Key → PyData
  | .inl i => .int i
  | .inr x => .str x
/-- the dict as data -/
def dictD (kvs : List (Key × V)) (ds : List PyData) : PyData := .dict ((kvs.map fun p => keyD p.1).zip ds)
theorem zip_fst : ∀ {α β : Type} (xs : List α) (ys : List β), xs.length = ys.length → (xs.zip ys).map (·.1) = xs
  | _, _, [], _, _ => rfl
  | _, _, x :: xs, y :: ys, h => by
    have z := zip_fst xs ys (by simpa using h)
    show x :: (xs.zip ys).map (·.1) = x :: xs
    rw [z]
theorem zip_snd : ∀ {α β : Type} (xs : List α) (ys : List β), xs.length = ys.length → (xs.zip ys).map (·.2) = ys
  | _, _, [], [], _ => rfl
  | _, _, x :: xs, y :: ys, h => by
    have z := zip_snd xs ys (by simpa using h)
    show y :: (xs.zip ys).map (·.2) = y :: ys
    rw [z]
section
variable {X : Cx} {pins : List (Addr × Obj)} {σ : L2.St} {H : Hp} {s : Shared}
theorem keys_read {P : Program} {w : World} {h : Heap} : ∀ {es : List DictEntry} {kvs : List (Key × V)} {vs : List (Key × Value)}, KV kvs vs → Pairs (mixKind P w) es vs → ∃ as, ReadsAll h (es.map (·.key)) (kvs.map fun p => keyD p.1) as
  | _, _, _, .nil, .nil => ⟨_, .nil⟩
  | _, _, _, .cons r k, .cons i e t => by
    obtain ⟨as, z⟩ := keys_read (h := h) k t
    obtain ⟨r1, r2⟩ := r
    rcases keyIs_shape i with ⟨n, tk, e1, e2⟩ | ⟨x, tk, e1, e2⟩
    · rw [List.map_cons, List.map_cons, e2, r1, e1]
      exact ⟨_, .cons (.int n tk) z⟩
    · rw [List.map_cons, List.map_cons, e2, r1, e1]
      exact ⟨_, .cons (.str x tk) z⟩
theorem vals_are {P : Program} {w : World} : ∀ {es : List DictEntry} {kvs : List (Key × V)} {vs : List (Key × Value)}, KV kvs vs → Pairs (mixKind P w) es vs → Vals (kvs.map (·.2)) (es.map (·.val))
  | _, _, _, .nil, .nil => .nil
  | _, _, _, .cons r k, .cons i e t => by
    rw [List.map_cons, List.map_cons, e]
    exact .cons r.2 (vals_are k t)
def rReprK (K : PySem.W.Frag) : List V → Hp → VK → Prop := fun xs H Q => ∃ (a : Addr) (kvs : List (Key × V)) (ds : List PyData), xs = [.ref a] ∧ H a = some (.dK kvs) ∧ DpAll K H (kvs.map (·.2)) ds ∧ (dictD kvs ds).showable = true ∧ (dictD kvs ds).depth ≤ 60 ∧ (dictD kvs ds).shown.length ≤ sizeLine ∧ Q (.str (dictD kvs ds).shown) H
theorem dict_reads {a : Addr} {kvs : List (Key × V)} {ds : List PyData} (I : Inv X pins σ H s) (e : H a = some (.dK kvs)) (hv : DpAll X.K H (kvs.map (·.2)) ds) (flat : ∀ d ∈ ds, ∃ i : Int, d = .int i) : ∃ as, Reads s.heap (.ref a) (dictD kvs ds) as ∧ sysModules ∉ as := by
  obtain ⟨z, hd, vs, kv, o, es, ep, ho, hx, hes, _, pr, _⟩ := dk_of I.hok e
  have len : kvs.length = ds.length := by
    have q := dpAll_len hv
    rwa [List.length_map] at q
  obtain ⟨as, r1⟩ := keys_read (h := s.heap) kv pr
  obtain ⟨bs, r2⟩ := Dp.readsAll I ds _ _ hv (vals_are kv pr)
  have none1 : ∀ {vs : List Value} {ks : List (Key × V)} {as : List Addr}, ReadsAll s.heap vs (ks.map fun p => keyD p.1) as → as = [] := by
    intro vs ks
    induction ks generalizing vs with
    | nil =>
      intro as r
      cases r
      rfl
    | cons p t ih =>
      intro as r
      cases r with
      | cons r1 r2 =>
        have q := ih r2
        subst q
        obtain ⟨k, v⟩ := p
        cases k with
        | inl i => cases r1; rfl
        | inr x => cases r1; rfl
  have none2 : ∀ {vs : List Value} {es : List PyData} {as : List Addr}, (∀ d ∈ es, ∃ i : Int, d = .int i) → ReadsAll s.heap vs es as → as = [] := by
    intro vs es
    induction es generalizing vs with
    | nil =>
      intro as _ r
      cases r
      rfl
    | cons p t ih =>
      intro as fl r
      cases r with
      | cons r1 r2 =>
        have q := ih (fun d hd => fl d (List.mem_cons_of_mem _ hd)) r2
        subst q
        obtain ⟨i, rfl⟩ := fl p List.mem_cons_self
        cases r1
        rfl
  have e1 := none1 r1
  have e2 := none2 flat r2
  subst e1
  subst e2
  refine ⟨[a], ?_, fun hm => ?_⟩
  · have q : Reads s.heap (.ref a) (dictD kvs ds) (a :: [] ++ []) := Reads.dict ho hx.1 hes (by
        rw [zip_fst _ _ (by rw [List.length_map]; exact len)]
        exact r1) (by
        rw [zip_snd _ _ (by rw [List.length_map]; exact len)]
        exact r2)
    exact q
  · have q : sysModules = a := by simpa using hm
    rw [← q] at hd
    exact absurd hd (by decide)
theorem call_repr_dict (gd : X.A.guards = some []) (hu : X.A.units + 64 < cLine) : CallR X (.builtin "repr") (fun xs H Q => ∃ (a : Addr) (kvs : List (Key × V)) (ds : List PyData), xs = [.ref a] ∧ H a = some (.dK kvs) ∧ DpAll X.K H (kvs.map (·.2)) ds ∧ (∀ d ∈ ds, ∃ i : Int, d = .int i) ∧ (dictD kvs ds).showable = true ∧ (dictD kvs ds).depth ≤ 60 ∧ (dictD kvs ds).shown.length ≤ sizeLine ∧ Q (.str (dictD kvs ds).shown) H) := by
  intro pins s σ H xs us Q I r h
  obtain ⟨a, kvs, ds, rfl, e, hv, flat, hs, hdep, hz, q⟩ := h
  obtain ⟨u, rfl, rv⟩ := vals1 r
  obtain rfl : u = Value.ref a := rv
  obtain ⟨as, rd, out⟩ := dict_reads I e hv flat
  exact repr_of_reads' rd hs (fun _ => out) gd (by omega) (fun _ _ e => e) (fun h' u tk hk => ⟨.str _, H, I.kept hk, ⟨_, rfl⟩, q⟩) hz
end
end Vf

set_option Elab.async false
set_option linter.all false
set_option maxRecDepth 100000
set_option maxHeartbeats 8000000
set_option exponentiation.threshold 3000
/-! Law k02. -/
namespace Vf
open PySem PySem.Spec PyProof.Rows L2 PySem.W
open C8 (pss_cut tCut)
/-! ### the twelve values -/
def oneD (j : Nat) : PyData := ([.none, .bool true, .int 0, .int (-7), .int (10 ^ 30), .str "", .str "ab", .tuple [], .tuple [.int 1, .int 2], .list [], .list [.int 3], .dict [(.str "a", .int 1)]] : List PyData).getD j .none
def oneT (j : Nat) : PySem.Str := (oneD j).shown
def IsOne (K : Frag) (H : Hp) (v : V) (j : Nat) : Prop := (j < 11 ∧ Dp K H v (oneD j)) ∨ (j = 11 ∧ ∃ a, v = .ref a ∧ H a = some (.dK [(.inr "a", .int 1)]))
theorem IsOne.same {K : Frag} {H H' : Hp} {v : V} {j : Nat} (h : IsOne K H v j) (S : Same H H') : IsOne K H' v j := by
  rcases h with ⟨l, d⟩ | ⟨e, a, ev, ea⟩
  · exact .inl ⟨l, dp_same S d⟩
  · exact .inr ⟨e, a, ev, S _ _ ea⟩
theorem one_nice : (List.range 11).all (fun j => nice (oneD j) && decide ((oneD j).depth ≤ 60) && decide (wide (oneD j) ≤ 1000000)) = true := by decide +kernel
theorem one_text : (List.range 12).all (fun j => PyData.strOk (oneT j)) = true := by decide +kernel
def rOne (K : Frag) : List V → Hp → VK → Prop := fun xs H Q => ∃ v j, xs = [v] ∧ j < 12 ∧ IsOne K H v j ∧ Q (.str (oneT j)) H
theorem call_repr_one {X : Cx} (gd : X.A.guards = some []) (hu : X.A.units + 64 < cLine) : CallR X (.builtin "repr") (rOne X.K) := by
  intro pins s σ H xs us Q I r h
  obtain ⟨v, j, rfl, j12, h | h, q⟩ := h
  · obtain ⟨j11, d⟩ := h
    have z := List.all_eq_true.mp one_nice j (List.mem_range.mpr j11)
    obtain ⟨z, z3⟩ := Bool.and_eq_true_iff.mp z
    obtain ⟨z1, z2⟩ := Bool.and_eq_true_iff.mp z
    exact call_repr gd hu pins s σ H _ us Q I r ⟨v, _, rfl, d, z1, of_decide_eq_true z2, of_decide_eq_true z3, q⟩
  · obtain ⟨rfl, a, rfl, ea⟩ := h
    exact call_repr_dict gd hu pins s σ H _ us Q I r ⟨a, _, [.int 1], rfl, ea, .cons (.int 1) .nil, (fun d hd => ⟨1, by simpa using hd⟩), (by decide +kernel), (by decide +kernel), (by decide +kernel), q⟩
/-! ### what the classes answer -/
def rootB (n j : Nat) : Bool := decide (j = 0 ∧ n < 11 ∨ j = 1 ∧ n < 11 ∨ j = 2 ∧ (n = 14 ∨ n = 15) ∨ j = 3 ∧ n = 14 ∨ j = 4 ∧ n = 15 ∨ j = 5 ∧ (n = 11 ∨ n = 12) ∨ j = 6 ∧ n = 13)
theorem due_is : (List.range 16).all (fun n => (List.range 7).all fun j => dueB n j == rootB n j) = true := by decide +kernel
/-- the written part's answers about its classes, gone through -/
def kindsB (K : Frag) (Cs : List Addr) (CB : Addr) : Bool := (List.range 16).all fun n =>
  ((List.range 16).all fun j => decide (kitOne K (.ref (Cs.getD n 0)) (.ref (Cs.getD j 0)) = some (decide (j = n)))) && ((List.range 7).all fun j => decide (kitOne K (.ref (Cs.getD n 0)) (rootV CB j) = some (rootB n j)))
section
variable {K : Frag} {Cs : List Addr} {CB : Addr} {n j : Nat}
theorem kindsB_kind (h : kindsB K Cs CB = true) (hn : n < 16) (hj : j < 16) : kitOne K (.ref (Cs.getD n 0)) (.ref (Cs.getD j 0)) = some (decide (j = n)) :=
  of_decide_eq_true (List.all_eq_true.mp (Bool.and_eq_true_iff.mp (List.all_eq_true.mp h n (List.mem_range.mpr hn))).1 j (List.mem_range.mpr hj))
theorem kindsB_root (h : kindsB K Cs CB = true) (hn : n < 16) (hj : j < 7) : kitOne K (.ref (Cs.getD n 0)) (rootV CB j) = some (rootB n j) :=
  of_decide_eq_true (List.all_eq_true.mp (Bool.and_eq_true_iff.mp (List.all_eq_true.mp h n (List.mem_range.mpr hn))).2 j (List.mem_range.mpr hj))
end
theorem due_root {n j : Nat} (hn : n < 16) (hj : j < 7) : dueB n j = rootB n j := beq_iff_eq.mp (List.all_eq_true.mp (List.all_eq_true.mp due_is n (List.mem_range.mpr hn)) j (List.mem_range.mpr hj))
theorem dp_bools {K : Frag} {H : Hp} {l : Addr} {bs : List Bool} (h : H l = some (.lst (bs.map V.bl))) : Dp K H (.ref l) (.list (bs.map PyData.bool)) := .lst (.inl (.inl h)) (by
  clear h
  induction bs with
  | nil => exact .nil
  | cons b t ih => exact .cons (.bl b) ih)
theorem bools_shaped (bs : List Bool) : SeqAt.shaped (.list (bs.map PyData.bool)) = true := shaped_of (by
  simp only [nice]
  exact niceAll_mem.mpr fun d hd => by
    obtain ⟨b, _, rfl⟩ := List.mem_map.mp hd
    rfl) (by
  have h2 : PyData.depthAll (bs.map PyData.bool) ≤ 1 := depthAll_mem.mpr fun d hd => by
    obtain ⟨b, _, rfl⟩ := List.mem_map.mp hd
    simp [PyData.depth]
  simp only [PyData.depth]
  omega)
theorem bools_eq : ∀ bs : List Bool, PyData.eqvAll (bs.map PyData.bool) (bs.map PyData.bool) = true
  | [] => by simp [PyData.eqvAll]
  | b :: t => by
    have z := bools_eq t
    simp only [List.map_cons, PyData.eqvAll, PyData.eqv, z]
    simp
theorem ne_bools {K : Frag} {H : Hp} {l k : Addr} {bs : List Bool} {Q : VK} (hl : H l = some (.lst (bs.map V.bl))) (hk : H k = some (.lst (bs.map V.bl))) (q : Q (.bl false) H) : rNeD K (.ref l) (.ref k) H Q :=
  ⟨_, _, dp_bools hl, dp_bools hk, bools_shaped bs, bools_shaped bs, (by
    have z : PyData.eqv (.list (bs.map PyData.bool)) (.list (bs.map PyData.bool)) = true := by
      simp only [PyData.eqv]
      exact bools_eq bs
    rw [z]
    exact q)⟩
/-! ### lists of one text -/
theorem dp_texts {K : Frag} {H : Hp} {l : Addr} {t : PySem.Str} {n : Nat} (h : H l = some (.lst (List.replicate n (V.str t)))) : Dp K H (.ref l) (.list (List.replicate n (PyData.str t))) := .lst (.inl (.inl h)) (by
  clear h
  induction n with
  | zero => exact .nil
  | succ n ih => exact .cons (.str t) ih)
theorem texts_shaped {t : PySem.Str} (ok : PyData.strOk t = true) : SeqAt.shaped (.list (List.replicate 15 (PyData.str t))) = true := by
  unfold SeqAt.shaped
  simp [List.replicate, PyData.canLay0, PyData.canLayAll0, PyData.depth, PyData.depthAll, ok]
theorem texts_eq (t : PySem.Str) : PyData.eqv (.list (List.replicate 15 (PyData.str t))) (.list (List.replicate 15 (PyData.str t))) = true := by
  simp [List.replicate, PyData.eqv, PyData.eqvAll]
theorem dec_place (i m : Nat) : decide (V.int (0 + (i : Int)) = V.int (0 + (m : Int))) = decide (i = m) := by
  by_cases h : i = m
  · subst h
    simp
  · rw [decide_eq_false h]
    exact decide_eq_false fun z => h (by have := V.int.inj z; omega)
theorem map_bl (g : Nat → Bool) (k : Nat) : ((List.range k).map g).map V.bl = (List.range k).map fun j => V.bl (g j) := by
  rw [List.map_map]
  rfl
theorem look1 {v : V} : List.lookup ("value" : PySem.Str) [(("value" : PySem.Str), v)] = some v := (lookup_put _ _ _ _).trans (if_pos rfl)
/-! ### the law -/
def turns (m : Int) : Int := if (if 6 < m then 6 else m) > 1 then (if 6 < m then 6 else m) else 1
theorem turns_in (m : Int) : 1 ≤ turns m ∧ turns m ≤ 6 := by
  unfold turns
  split <;> split <;> omega
theorem scLaw : FnScope ["_law_script", "_law_k", "_law_pool_here", "_law_one", "_law_some_here", "_law_at", "_law_stored", "_law_part", "_law_place"] ["_law_script"] (defScope sLaw) := ⟨rfl, rfl, rfl, by decide +kernel, rfl, by decide +kernel, by decide +kernel⟩
def spLaw (K : Frag) : Sp := fun vs H Q _ => ∃ (a : Addr) (ns : List Int), vs = [.ref a] ∧ SqL K H a (ns.map V.int) ∧ ns.length ≤ 63 ∧ ∀ H', Q (.bl true) H'
section
variable {P : Program} {w : World} {K : Frag} {mg : PySem.Str → Option Value} {base : Heap} {n : Nat}
theorem ok_law {f fP fT fS fQ fR fD CB C0 C1 C2 C3 C4 C5 C6 C7 C8 C9 C10 C11 C12 C13 C14 C15 : Addr} {fd dP dT dS dQ dR dD : FuncData} (F : Fun K "law" "law" sLaw f fd)
    (GP : FnOk P w K mg base CX0 n fP dP ["_law_script", "_law_k"] (spPool K)) (kP : keepIn K (.ref fP) = true) (bP : Binds K dP ["_law_script", "_law_k"] []) (gP : mg "_law_pool" = some (.ref fP))
    (GT : FnOk P w K mg base CX0 n fT dT ["_law_pool_here", "_law_sides"] (spTake K)) (kT : keepIn K (.ref fT) = true) (bT : Binds K dT ["_law_pool_here", "_law_sides"] []) (gT : mg "_law_take" = some (.ref fT))
    (GS : FnOk P w K mg base CX0 n fS dS ["_law_one"] (spSome [C0, C1, C2, C3, C4, C5, C6, C7, C8, C9, C10, C11, C12, C13, C14, C15])) (kS : keepIn K (.ref fS) = true) (bS : Binds K dS ["_law_one"] []) (gS : mg "_law_some" = some (.ref fS))
    (GQ : FnOk P w K mg base CX0 n fQ dQ ["_law_e"] (spKinds K [C0, C1, C2, C3, C4, C5, C6, C7, C8, C9, C10, C11, C12, C13, C14, C15])) (kQ : keepIn K (.ref fQ) = true) (bQ : Binds K dQ ["_law_e"] []) (gQ : mg "_law_kinds" = some (.ref fQ))
    (GR : FnOk P w K mg base CX0 n fR dR ["_law_e"] (spRoots K CB)) (kR : keepIn K (.ref fR) = true) (bR : Binds K dR ["_law_e"] []) (gR : mg "_law_roots" = some (.ref fR))
    (GD : FnOk P w K mg base CX0 n fD dD ["_law_at"] (spDue)) (kD : keepIn K (.ref fD) = true) (bD : Binds K dD ["_law_at"] []) (gD : mg "_law_due" = some (.ref fD))
    (M0 : XMk P w K mg base "InvalidBox" C0 n) (M1 : XMk P w K mg base "InvalidSquare" C1 n) (M2 : XMk P w K mg base "InvalidRegion" C2 n) (M3 : XMk P w K mg base "InvalidNumber" C3 n) (M4 : XMk P w K mg base "InvalidLoops" C4 n) (M5 : XMk P w K mg base "InvalidAxis" C5 n) (M6 : XMk P w K mg base "InvalidSpans" C6 n) (M7 : XMk P w K mg base "InvalidName" C7 n) (M8 : XMk P w K mg base "InvalidText" C8 n) (M9 : XMk P w K mg base "InvalidLine" C9 n) (M10 : XMk P w K mg base "Outside" C10 n) (M11 : XMk P w K mg base "Unbounded" C11 n) (M12 : XMk P w K mg base "Blocked" C12 n) (M13 : XMk P w K mg base "TooMany" C13 n) (M14 : XMk P w K mg base "NoName" C14 n)
    (X15 : ExcC K C15) (KB : kindsB K [C0, C1, C2, C3, C4, C5, C6, C7, C8, C9, C10, C11, C12, C13, C14, C15] CB = true)
    (m_range : mg "range" = none) (m_max : mg "max" = none) (m_min : mg "min" = none) (m_len : mg "len" = none) (m_repr : mg "repr" = none) : FnG P w K mg base CX0 (n + 2) f fd ["_law_script"] (spLaw K) := by
  have nd := scLaw.nd
  have XC : ∀ {m : Nat} {C : Addr}, ([C0, C1, C2, C3, C4, C5, C6, C7, C8, C9, C10, C11, C12, C13, C14, C15] : List Addr)[m]? = some C → ExcC K C := fun {m C} e => by
    match m, e with
    | 0, e => cases e; exact M0.xc
    | 1, e => cases e; exact M1.xc
    | 2, e => cases e; exact M2.xc
    | 3, e => cases e; exact M3.xc
    | 4, e => cases e; exact M4.xc
    | 5, e => cases e; exact M5.xc
    | 6, e => cases e; exact M6.xc
    | 7, e => cases e; exact M7.xc
    | 8, e => cases e; exact M8.xc
    | 9, e => cases e; exact M9.xc
    | 10, e => cases e; exact M10.xc
    | 11, e => cases e; exact M11.xc
    | 12, e => cases e; exact M12.xc
    | 13, e => cases e; exact M13.xc
    | 14, e => cases e; exact M14.xc
    | 15, e => cases e; exact X15
    | m + 16, e => simp at e
  refine okG F scLaw (fun {vs H Q E} h => ?_) (fun cdv A outer st H vs Q E gA hr h => ?_)
  · obtain ⟨a, ns, rfl, _⟩ := h
    rfl
  · obtain ⟨a, ns, rfl, hS, sz, q⟩ := h
    have gd : (A.deeper (envOfC "law" (defScope sLaw) st.heap.objs.size f cdv)).guards = some [] := gA
    have hm : Room (n + 1) (A.deeper (envOfC "law" (defScope sLaw) st.heap.objs.size f cdv)) := hr
    have h0 : Room n (A.deeper (envOfC "law" (defScope sLaw) st.heap.objs.size f cdv)) := hr.mono (by omega)
    have hu := hr.units
    refine ⟨_, (pss_cut (ps_for PassesOwn.never rfl (pi_range1 (by rfl) m_range (pa_cons (pe_callB (call_max2 rfl) (by rfl) m_max (by decide +kernel) (pa_cons pe_int (pa_cons (pe_callB (call_min2 rfl) (by rfl) m_min (by decide +kernel) (pa_cons (pe_callB call_len_seq (by rfl) m_len PySem.boot_len (pa_cons (pv 0) pa_nil)) (pa_cons pe_int pa_nil))) pa_nil))) pa_nil)) (pg_name (i := 1) nd rfl (Or.inl rfl))
  (pss_cut (ps_set (i := 2) nd rfl (Or.inl rfl) (pe_call GP h0 (by rfl) gP kP bP .nil pass0 (pa_cons (pv 0) (pa_cons (pv 1) pa_nil))))
  (pss_cut (ps_set (i := 3) nd rfl (Or.inl rfl) (pe_ix ix_list (pe_lst (pa_cons pe_non (pa_cons pe_bl (pa_cons pe_int (pa_cons (pe_un un_neg pe_int) (pa_cons (pe_op op_pow pe_int pe_int) (pa_cons pe_str (pa_cons pe_str (pa_cons (pe_tup pa_nil) (pa_cons (pe_tup (pa_cons pe_int (pa_cons pe_int pa_nil))) (pa_cons (pe_lst pa_nil) (pa_cons (pe_lst (pa_cons pe_int pa_nil)) (pa_cons (pe_disp (pps_cons pe_str pe_int pps_nil) rfl rfl (by simp) (by decide)) pa_nil))))))))))))) (pe_call GT h0 (by rfl) gT kT bT .nil pass0 (pa_cons (pv 2) (pa_cons pe_int pa_nil))) (fun _ _ => rfl)))
  (pss_cut (ps_set (i := 4) nd rfl (Or.inl rfl) (pe_call GS h0 (by rfl) gS kS bS .nil pass0 (pa_cons (pv 3) pa_nil)))
  (pss_cut (ps_for PassesOwn.never rfl (pi_range1 (by rfl) m_range (pa_cons (pe_callB call_len_seq (by rfl) m_len PySem.boot_len (pa_cons (pv 4) pa_nil)) pa_nil)) (pg_name (i := 5) nd rfl (Or.inr rfl))
  (pss_one (ps_if (PW.pt (pw_or (pt_cmpR (op_neD hu) (pe_call GQ h0 (by rfl) gQ kQ bQ .nil pass0 (pa_cons (pe_ix ix_list (pv 4) (pv 5) (fun _ _ => rfl)) pa_nil)) (pe_lc (own := [("_law_place", 8)]) (g := gName 8) (tt := tYes) rfl nd (pi_range1 (by rfl) m_range (pa_cons pe_int pa_nil)) (blkOk_by (N := ["_law_script", "_law_k", "_law_pool_here", "_law_one", "_law_some_here", "_law_at", "_law_stored", "_law_part", "_law_place"]) (sc := defScope sLaw) (by decide +kernel)) (fun _ _ _ _ _ => (pg_name (i := 8) nd rfl (Or.inl rfl))) (fun _ _ _ _ _ => pts_nil) (fun _ _ _ _ _ => (pe_cmpR (r := rEq) op_eq (pv 8) (pv 5) (nomark _)))) (nomark _)) (pw_or1 (pt_cmpR (op_neD hu) (pe_call GR h0 (by rfl) gR kR bR .nil pass0 (pa_cons (pe_ix ix_list (pv 4) (pv 5) (fun _ _ => rfl)) pa_nil)) (pe_call GD h0 (by rfl) gD kD bD .nil pass0 (pa_cons (pv 5) pa_nil)) (nomark _))))) (pss_one (ps_ret pe_bl)) pss_nil)))
  (pss_cut (ps_set (i := 6) nd rfl (Or.inl rfl) (pe_lst (pa_cons (pe_xv (pe_mkK M0 hm (by rfl) (pv 3))) (pa_cons (pe_xv (pe_mkK M1 hm (by rfl) (pv 3))) (pa_cons (pe_xv (pe_mkK M2 hm (by rfl) (pv 3))) pa_nil)))))
  (pss_cut (ps_set (i := 6) nd rfl (Or.inl rfl) (pe_op op_cat (pv 6) (pe_lst (pa_cons (pe_xv (pe_mkK M3 hm (by rfl) (pv 3))) (pa_cons (pe_xv (pe_mkK M4 hm (by rfl) (pv 3))) pa_nil)))))
  (pss_cut (ps_set (i := 6) nd rfl (Or.inl rfl) (pe_op op_cat (pv 6) (pe_lst (pa_cons (pe_xv (pe_mkK M5 hm (by rfl) (pv 3))) (pa_cons (pe_xv (pe_mkK M6 hm (by rfl) (pv 3))) pa_nil)))))
  (pss_cut (ps_set (i := 6) nd rfl (Or.inl rfl) (pe_op op_cat (pv 6) (pe_lst (pa_cons (pe_xv (pe_mkK M7 hm (by rfl) (pv 3))) (pa_cons (pe_xv (pe_mkK M8 hm (by rfl) (pv 3))) pa_nil)))))
  (pss_cut (ps_set (i := 6) nd rfl (Or.inl rfl) (pe_op op_cat (pv 6) (pe_lst (pa_cons (pe_xv (pe_mkK M9 hm (by rfl) (pv 3))) (pa_cons (pe_xv (pe_mkV M10 hm (by rfl) (pv 3))) (pa_cons (pe_xv (pe_mkV M11 hm (by rfl) (pv 3))) pa_nil))))))
  (pss_cut (ps_set (i := 6) nd rfl (Or.inl rfl) (pe_op op_cat (pv 6) (pe_lst (pa_cons (pe_xv (pe_mkV M12 hm (by rfl) (pv 3))) pa_nil))))
  (pss_cut (ps_set (i := 6) nd rfl (Or.inl rfl) (pe_op op_cat (pv 6) (pe_lst (pa_cons (pe_xv (pe_mkV M13 hm (by rfl) (pv 3))) (pa_cons (pe_xv (pe_mkV M14 hm (by rfl) (pv 3))) pa_nil)))))
  (pss_one (ps_if (pt_cmpR (op_neD hu) (pe_lc (own := [("_law_part", 7)]) (g := gName 7) (tt := tYes) rfl nd (pi_list (pv 6)) (blkOk_by (N := ["_law_script", "_law_k", "_law_pool_here", "_law_one", "_law_some_here", "_law_at", "_law_stored", "_law_part", "_law_place"]) (sc := defScope sLaw) (by decide +kernel)) (fun _ _ _ _ _ => (pg_name (i := 7) nd rfl (Or.inl rfl))) (fun _ _ _ _ _ => pts_nil) (fun _ _ _ _ _ => (pe_callB (id := "repr") (r := rOne K) (call_repr_one gd hu) (by rfl) m_repr (by decide +kernel) (pa_cons (pv 7) pa_nil)))) (pe_op op_rep (pe_lst (pa_cons (pe_callB (call_repr_one gd hu) (by rfl) m_repr (by decide +kernel) (pa_cons (pv 3) pa_nil)) pa_nil)) pe_int) (nomark _)) (pss_one (ps_ret pe_bl)) pss_nil))))))))))))))
  (pss_one (ps_ret pe_bl))), ?_⟩
    refine ⟨fun σ' H' => ∃ o1 o2 o3 o4 o5 o6 o7 o8, σ' = [some (.ref a), o1, o2, o3, o4, o5, o6, o7, o8], ?_, fun σ' H' z => q H'⟩
    refine ⟨.ref a, rfl, a, _, rfl, .inl hS, _, _, rfl, _, _, rfl, turns ((ns.map V.int).length : Int), rfl, ?_, ?_, for_range (fun i σ H' => Same H H' ∧ ∃ o1 o2 o3 o4 o5 o6 o7 o8, σ = [some (.ref a), o1, o2, o3, o4, o5, o6, o7, o8]) ⟨Same.refl H, none, none, none, none, none, none, none, none, rfl⟩ (fun i σ H1 hi hp => ?_) (fun σ H' z => z.2)⟩
    · have := turns_in ((ns.map V.int).length : Int)
      omega
    · have := turns_in ((ns.map V.int).length : Int)
      omega
    have hi6 : i < 6 := by
      have := turns_in ((ns.map V.int).length : Int)
      omega
    obtain ⟨S1, o1, o2, o3, o4, o5, o6, o7, o8, rfl⟩ := hp
    -- the pool
    refine ⟨fun σ' H' => ∃ p, H1 p = none ∧ Same H1 H' ∧ Pool H' p ∧ σ' = [some (.ref a), some (.int (0 + (i : Int))), some (.ref p), o3, o4, o5, o6, o7, o8], ⟨.ref a, rfl, .int (0 + (i : Int)), rfl, a, ns, 0 + (i : Int), rfl, S1.seq hS, by omega, by omega, by omega, fun p o hp P2 => ⟨p, hp, same_new hp, P2, rfl⟩⟩, ?_⟩
    rintro _ H2 ⟨p, p0, S2, P2, rfl⟩
    -- one of the twelve
    refine ⟨fun σ' H' => ∃ v j, j < 12 ∧ IsOne K H' v j ∧ Same H1 H' ∧ σ' = [some (.ref a), some (.int (0 + (i : Int))), some (.ref p), some v, o4, o5, o6, o7, o8], ?_, ?_⟩
    · refine ⟨7, rfl, 10, 30, rfl, rfl, ⟨by decide, by decide, by decide⟩, (by show 0 ≤ sizeLine; decide), fun t1 h1 => ?_⟩
      have T1 := same_new (o := .tup []) h1
      have e1 := upd_same (H := H2) (a := t1) (o := .tup [])
      generalize upd H2 t1 (.tup []) = G1 at *
      refine ⟨(by show 2 ≤ sizeLine; decide), fun t2 h2 => ?_⟩
      have T2 := same_new (o := .tup [.int 1, .int 2]) h2
      have e2 := upd_same (H := G1) (a := t2) (o := .tup [.int 1, .int 2])
      generalize upd G1 t2 (.tup [.int 1, .int 2]) = G2 at *
      refine ⟨(by show 0 ≤ sizeLine; decide), fun t3 h3 => ?_⟩
      have T3 := same_new (o := .lst []) h3
      have e3 := upd_same (H := G2) (a := t3) (o := .lst [])
      generalize upd G2 t3 (.lst []) = G3 at *
      refine ⟨(by show 1 ≤ sizeLine; decide), fun t4 h4 => ?_⟩
      have T4 := same_new (o := .lst [.int 3]) h4
      have e4 := upd_same (H := G3) (a := t4) (o := .lst [.int 3])
      generalize upd G3 t4 (.lst [.int 3]) = G4 at *
      intro t5 h5
      refine ⟨upd_same, [(.inr "a", .int 1)], rfl, by decide, ?_⟩
      have T5 : Same G4 (upd (upd G4 t5 (.dK [])) t5 (.dK (mergeK [] [(Sum.inr "a", V.int 1)]))) := fun b o e => by
        rw [upd_ne (ne_of_none e h5), upd_ne (ne_of_none e h5)]
        exact e
      have e5 : upd (upd G4 t5 (.dK [])) t5 (.dK (mergeK [] [(Sum.inr "a", V.int 1)])) t5 = some (.dK [(.inr "a", .int 1)]) := upd_same
      generalize upd (upd G4 t5 (.dK [])) t5 (.dK (mergeK [] [(Sum.inr "a", V.int 1)])) = G5 at *
      refine ⟨(by show 12 ≤ sizeLine; decide), fun l hl => ?_⟩
      have T6 := same_new (o := .lst [.non, .bl true, .int 0, .int (-7), .int (10 ^ (30 : Int).toNat), .str "", .str "ab", .ref t1, .ref t2, .ref t3, .ref t4, .ref t5]) hl
      have e6 := upd_same (H := G5) (a := l) (o := .lst [.non, .bl true, .int 0, .int (-7), .int (10 ^ (30 : Int).toNat), .str "", .str "ab", .ref t1, .ref t2, .ref t3, .ref t4, .ref t5])
      generalize upd G5 l (.lst [.non, .bl true, .int 0, .int (-7), .int (10 ^ (30 : Int).toNat), .str "", .str "ab", .ref t1, .ref t2, .ref t3, .ref t4, .ref t5]) = G6 at *
      have n1 := pool_ne P2 h1
      have n2 := pool_ne (pool_same P2 T1) h2
      have n3 := pool_ne (pool_same P2 (T1.trans T2)) h3
      have n4 := pool_ne (pool_same P2 ((T1.trans T2).trans T3)) h4
      have n5 := pool_ne (pool_same P2 (((T1.trans T2).trans T3).trans T4)) h5
      have n6 := pool_ne (pool_same P2 ((((T1.trans T2).trans T3).trans T4).trans T5)) hl
      have T26 := ((((T1.trans T2).trans T3).trans T4).trans T5).trans T6
      refine ⟨.ref p, rfl, p, 12, rfl, pool_same P2 T26, by decide, by decide, fun z o b1 b2 P4 => ?_⟩
      obtain ⟨m, rfl⟩ : ∃ m : Nat, z = m := ⟨z.toNat, by omega⟩
      have m12 : m < 12 := by omega
      have f1 : upd G6 p o t1 = some (.tup []) := by
        rw [upd_ne n1]
        exact T6 _ _ (T5 _ _ (T4 _ _ (T3 _ _ (T2 _ _ e1))))
      have f2 : upd G6 p o t2 = some (.tup [.int 1, .int 2]) := by
        rw [upd_ne n2]
        exact T6 _ _ (T5 _ _ (T4 _ _ (T3 _ _ e2)))
      have f3 : upd G6 p o t3 = some (.lst []) := by
        rw [upd_ne n3]
        exact T6 _ _ (T5 _ _ (T4 _ _ e3))
      have f4 : upd G6 p o t4 = some (.lst [.int 3]) := by
        rw [upd_ne n4]
        exact T6 _ _ (T5 _ _ e4)
      have f5 : upd G6 p o t5 = some (.dK [(.inr "a", .int 1)]) := by
        rw [upd_ne n5]
        exact T6 _ _ e5
      have f6 : upd G6 p o l = some (.lst [.non, .bl true, .int 0, .int (-7), .int (10 ^ (30 : Int).toNat), .str "", .str "ab", .ref t1, .ref t2, .ref t3, .ref t4, .ref t5]) := by
        rw [upd_ne n6]
        exact e6
      have all : Same H1 (upd G6 p o) := fun b u e => by
        rw [upd_ne (ne_of_none e p0)]
        exact T26 _ _ (S2 _ _ e)
      generalize upd G6 p o = G7 at *
      have key : ∃ x, [V.non, .bl true, .int 0, .int (-7), .int (10 ^ (30 : Int).toNat), .str "", .str "ab", .ref t1, .ref t2, .ref t3, .ref t4, .ref t5][m]? = some x ∧ IsOne K G7 x m := by
        match m, m12 with
        | 0, _ => exact ⟨_, rfl, .inl ⟨by decide, .non⟩⟩
        | 1, _ => exact ⟨_, rfl, .inl ⟨by decide, .bl _⟩⟩
        | 2, _ => exact ⟨_, rfl, .inl ⟨by decide, .int _⟩⟩
        | 3, _ => exact ⟨_, rfl, .inl ⟨by decide, .int _⟩⟩
        | 4, _ => exact ⟨_, rfl, .inl ⟨by decide, .int _⟩⟩
        | 5, _ => exact ⟨_, rfl, .inl ⟨by decide, .str _⟩⟩
        | 6, _ => exact ⟨_, rfl, .inl ⟨by decide, .str _⟩⟩
        | 7, _ => exact ⟨_, rfl, .inl ⟨by decide, .tup (.inl (.inl f1)) .nil⟩⟩
        | 8, _ => exact ⟨_, rfl, .inl ⟨by decide, .tup (.inl (.inl f2)) (.cons (.int 1) (.cons (.int 2) .nil))⟩⟩
        | 9, _ => exact ⟨_, rfl, .inl ⟨by decide, .lst (.inl (.inl f3)) .nil⟩⟩
        | 10, _ => exact ⟨_, rfl, .inl ⟨by decide, .lst (.inl (.inl f4)) (.cons (.int 3) .nil)⟩⟩
        | 11, _ => exact ⟨_, rfl, .inr ⟨rfl, t5, rfl, f5⟩⟩
      obtain ⟨x, hx, one⟩ := key
      exact ⟨l, _, (m : Int), x, rfl, rfl, .inl (.inl f6), atI_nat hx, x, m, m12, one, all, rfl⟩
    rintro _ H3 ⟨v, j, j12, one3, S3, rfl⟩
    -- the sixteen
    refine ⟨fun σ' H' => ∃ l xs, Same H3 H' ∧ H' l = some (.lst xs) ∧ XL H' [C0, C1, C2, C3, C4, C5, C6, C7, C8, C9, C10, C11, C12, C13, C14, C15] xs ∧ σ' = [some (.ref a), some (.int (0 + (i : Int))), some (.ref p), some v, some (.ref l), o5, o6, o7, o8], ⟨v, rfl, v, rfl, fun l xs H' S e x => ⟨l, xs, S, e, x, rfl⟩⟩, ?_⟩
    rintro _ H4 ⟨l, xs, S4, e4, x4, rfl⟩
    have len : xs.length = 16 := x4.len
    refine ⟨fun σ' H' => ∃ o5, Same H4 H' ∧ σ' = [some (.ref a), some (.int (0 + (i : Int))), some (.ref p), some v, some (.ref l), o5, o6, o7, o8], ?_, ?_⟩
    · refine ⟨.ref l, rfl, l, xs, rfl, .inl (.inl (.inl e4)), ((xs.length : Nat) : Int), rfl, by omega, by omega, for_range (fun i2 σ H' => Same H4 H' ∧ ∃ o5, σ = [some (.ref a), some (.int (0 + (i : Int))), some (.ref p), some v, some (.ref l), o5, o6, o7, o8]) ⟨Same.refl H4, o5, rfl⟩ (fun m σ H5 hm2 hp => ?_) (fun σ H' z => z.2.elim fun o5 e => ⟨o5, z.1, e⟩)⟩
      obtain ⟨S5, o5, rfl⟩ := hp
      have m16 : m < 16 := by omega
      have x5 := x4.same S5
      have xm : xs[m]? = some xs[m] := List.getElem?_eq_getElem (by omega)
      obtain ⟨y, C, ey, eC, yAt⟩ := x5.get xm
      have sl5 : SqL K H5 l xs := .inl (.inl (S5 _ _ e4))
      have atm : atI xs (0 + (m : Int)) = some xs[m] := by
        rw [Int.zero_add]
        exact atI_nat xm
      have Cm : ([C0, C1, C2, C3, C4, C5, C6, C7, C8, C9, C10, C11, C12, C13, C14, C15] : List Addr).getD m 0 = C := by
        rw [List.getD_eq_getElem?_getD, eC] <;> rfl
      refine ⟨.ref l, rfl, .int (0 + (m : Int)), rfl, l, xs, 0 + (m : Int), xs[m], rfl, rfl, sl5, atm, y, C, fun j => decide (j = m), (by rw [ey]; rfl), XC eC, yAt, (fun j hj => by rw [← Cm]; exact kindsB_kind KB m16 hj), fun l1 H6 S6 k6 => ?_⟩
      refine ⟨16, rfl, by decide, by decide, fun D hD => ?_⟩
      refine lc_range (fun i2 H' => Same H6 H' ∧ H' D = some (.lst ((List.range i2).map fun j => .bl (decide (j = m))))) ⟨same_new hD, upd_same⟩ (fun i2 H' hi2 z => ?_) (fun H' z => ?_)
      · obtain ⟨S7, eD⟩ := z
        refine ⟨rfl, .int (0 + (i2 : Int)), rfl, .int (0 + (m : Int)), rfl, rfl, _, eD, (by rw [List.length_map, List.length_range]; exact Nat.lt_trans hi2 (by decide)), ?_⟩
        refine ⟨fun b o e => ?_, ?_⟩
        · rw [upd_ne (ne_of_none e hD)]
          exact S7 _ _ e
        · rw [upd_same, dec_place, List.range_succ, List.map_append]
          rfl
      · obtain ⟨S7, eD⟩ := z
        refine ne_bools (bs := (List.range 16).map fun j => decide (j = m)) (by rw [map_bl]; exact S7 _ _ k6) (by rw [map_bl]; exact eD) ⟨false, rfl, iteF ?_⟩
        refine ⟨.ref l, rfl, .int (0 + (m : Int)), rfl, l, xs, 0 + (m : Int), xs[m], rfl, rfl, .inl (.inl (S7 _ _ (S6 _ _ (S5 _ _ e4)))), atm, y, C, fun j => rootB m j, (by rw [ey]; rfl), XC eC, (yAt.same S6).same S7, (fun j hj => by rw [← Cm]; exact kindsB_root KB m16 hj), fun l2 H8 S8 k8 => ?_⟩
        refine ⟨.int (0 + (m : Int)), rfl, m, (by rw [Int.zero_add]; rfl), m16, fun l3 H9 S9 k9 => ?_⟩
        refine ne_bools (bs := (List.range 7).map fun j => rootB m j) (by rw [map_bl]; exact S9 _ _ k8) (by rw [map_bl, k9]; exact congrArg (fun z => some (HO.lst z)) (List.map_congr_left fun j hj => by rw [due_root m16 (List.mem_range.mp hj)])) ⟨false, rfl, iteF ?_⟩
        exact ⟨((((S5.trans S6).trans S7).trans S8).trans S9), _, rfl⟩
    rintro _ H5 ⟨o5, S5, rfl⟩
    have S35 := S4.trans S5
    clear S4 S5 e4 x4 len
    refine ⟨fun σ' H' => ∃ k, Same H3 H' ∧ H' k = some (.lst (List.replicate 3 v)) ∧ σ' = [some (.ref a), some (.int (0 + (i : Int))), some (.ref p), some v, some (.ref l), o5, some (.ref k), o7, o8], ?_, ?_⟩
    · refine ⟨v, rfl, fun a0 J0 S0' X0 => X0.elim fun dx0 z0 => ⟨a0, C0, dx0, _, v, rfl, M0.xf, M0.vl, z0.1, z0.2, look1, ⟨v, rfl, fun a1 J1 S1' X1 => X1.elim fun dx1 z1 => ⟨a1, C1, dx1, _, v, rfl, M1.xf, M1.vl, z1.1, z1.2, look1, ⟨v, rfl, fun a2 J2 S2' X2 => X2.elim fun dx2 z2 => ⟨a2, C2, dx2, _, v, rfl, M2.xf, M2.vl, z2.1, z2.2, look1, ⟨(by show 3 ≤ sizeLine; decide), fun k hk => ?_⟩⟩⟩⟩⟩⟩⟩
      have T := ((S0'.trans S1').trans S2').trans (same_new (o := .lst [v, v, v]) hk)
      have here := upd_same (H := J2) (a := k) (o := .lst [v, v, v])
      generalize upd J2 k (.lst [v, v, v]) = W at *
      exact ⟨k, S35.trans T, here, rfl⟩
    rintro _ K0 ⟨k0, S0, e0, rfl⟩
    refine ⟨fun σ' H' => ∃ k, Same H3 H' ∧ H' k = some (.lst (List.replicate 5 v)) ∧ σ' = [some (.ref a), some (.int (0 + (i : Int))), some (.ref p), some v, some (.ref l), o5, some (.ref k), o7, o8], ?_, ?_⟩
    · refine ⟨.ref k0, rfl, ⟨v, rfl, fun a3 J3 S3' X3 => X3.elim fun dx3 z3 => ⟨a3, C3, dx3, _, v, rfl, M3.xf, M3.vl, z3.1, z3.2, look1, ⟨v, rfl, fun a4 J4 S4' X4 => X4.elim fun dx4 z4 => ⟨a4, C4, dx4, _, v, rfl, M4.xf, M4.vl, z4.1, z4.2, look1, ⟨(by show 2 ≤ sizeLine; decide), fun k hk => ?_⟩⟩⟩⟩⟩⟩
      have T := (S3'.trans S4').trans (same_new (o := .lst [v, v]) hk)
      have here := upd_same (H := J4) (a := k) (o := .lst [v, v])
      generalize upd J4 k (.lst [v, v]) = W at *
      refine ⟨k0, k, _, _, rfl, rfl, T _ _ e0, here, (by show 3 + 2 ≤ sizeLine; decide), fun k2 hk2 => ?_⟩
      exact ⟨k2, (S0.trans T).trans (same_new hk2), upd_same, rfl⟩
    clear S0 e0
    rintro _ K1 ⟨k0, S0, e0, rfl⟩
    refine ⟨fun σ' H' => ∃ k, Same H3 H' ∧ H' k = some (.lst (List.replicate 7 v)) ∧ σ' = [some (.ref a), some (.int (0 + (i : Int))), some (.ref p), some v, some (.ref l), o5, some (.ref k), o7, o8], ?_, ?_⟩
    · refine ⟨.ref k0, rfl, ⟨v, rfl, fun a5 J5 S5' X5 => X5.elim fun dx5 z5 => ⟨a5, C5, dx5, _, v, rfl, M5.xf, M5.vl, z5.1, z5.2, look1, ⟨v, rfl, fun a6 J6 S6' X6 => X6.elim fun dx6 z6 => ⟨a6, C6, dx6, _, v, rfl, M6.xf, M6.vl, z6.1, z6.2, look1, ⟨(by show 2 ≤ sizeLine; decide), fun k hk => ?_⟩⟩⟩⟩⟩⟩
      have T := (S5'.trans S6').trans (same_new (o := .lst [v, v]) hk)
      have here := upd_same (H := J6) (a := k) (o := .lst [v, v])
      generalize upd J6 k (.lst [v, v]) = W at *
      refine ⟨k0, k, _, _, rfl, rfl, T _ _ e0, here, (by show 5 + 2 ≤ sizeLine; decide), fun k2 hk2 => ?_⟩
      exact ⟨k2, (S0.trans T).trans (same_new hk2), upd_same, rfl⟩
    clear S0 e0
    rintro _ K2 ⟨k0, S0, e0, rfl⟩
    refine ⟨fun σ' H' => ∃ k, Same H3 H' ∧ H' k = some (.lst (List.replicate 9 v)) ∧ σ' = [some (.ref a), some (.int (0 + (i : Int))), some (.ref p), some v, some (.ref l), o5, some (.ref k), o7, o8], ?_, ?_⟩
    · refine ⟨.ref k0, rfl, ⟨v, rfl, fun a7 J7 S7' X7 => X7.elim fun dx7 z7 => ⟨a7, C7, dx7, _, v, rfl, M7.xf, M7.vl, z7.1, z7.2, look1, ⟨v, rfl, fun a8 J8 S8' X8 => X8.elim fun dx8 z8 => ⟨a8, C8, dx8, _, v, rfl, M8.xf, M8.vl, z8.1, z8.2, look1, ⟨(by show 2 ≤ sizeLine; decide), fun k hk => ?_⟩⟩⟩⟩⟩⟩
      have T := (S7'.trans S8').trans (same_new (o := .lst [v, v]) hk)
      have here := upd_same (H := J8) (a := k) (o := .lst [v, v])
      generalize upd J8 k (.lst [v, v]) = W at *
      refine ⟨k0, k, _, _, rfl, rfl, T _ _ e0, here, (by show 7 + 2 ≤ sizeLine; decide), fun k2 hk2 => ?_⟩
      exact ⟨k2, (S0.trans T).trans (same_new hk2), upd_same, rfl⟩
    clear S0 e0
    rintro _ K3 ⟨k0, S0, e0, rfl⟩
    refine ⟨fun σ' H' => ∃ k, Same H3 H' ∧ H' k = some (.lst (List.replicate 12 v)) ∧ σ' = [some (.ref a), some (.int (0 + (i : Int))), some (.ref p), some v, some (.ref l), o5, some (.ref k), o7, o8], ?_, ?_⟩
    · refine ⟨.ref k0, rfl, ⟨v, rfl, fun a9 J9 S9' X9 => X9.elim fun dx9 z9 => ⟨a9, C9, dx9, _, v, rfl, M9.xf, M9.vl, z9.1, z9.2, look1, ⟨v, rfl, fun a10 J10 S10' X10 => X10.elim fun dx10 z10 => ⟨a10, C10, dx10, _, v, rfl, M10.xf, M10.vl, z10.1, z10.2, look1, ⟨v, rfl, fun a11 J11 S11' X11 => X11.elim fun dx11 z11 => ⟨a11, C11, dx11, _, v, rfl, M11.xf, M11.vl, z11.1, z11.2, look1, ⟨(by show 3 ≤ sizeLine; decide), fun k hk => ?_⟩⟩⟩⟩⟩⟩⟩⟩
      have T := ((S9'.trans S10').trans S11').trans (same_new (o := .lst [v, v, v]) hk)
      have here := upd_same (H := J11) (a := k) (o := .lst [v, v, v])
      generalize upd J11 k (.lst [v, v, v]) = W at *
      refine ⟨k0, k, _, _, rfl, rfl, T _ _ e0, here, (by show 9 + 3 ≤ sizeLine; decide), fun k2 hk2 => ?_⟩
      exact ⟨k2, (S0.trans T).trans (same_new hk2), upd_same, rfl⟩
    clear S0 e0
    rintro _ K4 ⟨k0, S0, e0, rfl⟩
    refine ⟨fun σ' H' => ∃ k, Same H3 H' ∧ H' k = some (.lst (List.replicate 13 v)) ∧ σ' = [some (.ref a), some (.int (0 + (i : Int))), some (.ref p), some v, some (.ref l), o5, some (.ref k), o7, o8], ?_, ?_⟩
    · refine ⟨.ref k0, rfl, ⟨v, rfl, fun a12 J12 S12' X12 => X12.elim fun dx12 z12 => ⟨a12, C12, dx12, _, v, rfl, M12.xf, M12.vl, z12.1, z12.2, look1, ⟨(by show 1 ≤ sizeLine; decide), fun k hk => ?_⟩⟩⟩⟩
      have T := S12'.trans (same_new (o := .lst [v]) hk)
      have here := upd_same (H := J12) (a := k) (o := .lst [v])
      generalize upd J12 k (.lst [v]) = W at *
      refine ⟨k0, k, _, _, rfl, rfl, T _ _ e0, here, (by show 12 + 1 ≤ sizeLine; decide), fun k2 hk2 => ?_⟩
      exact ⟨k2, (S0.trans T).trans (same_new hk2), upd_same, rfl⟩
    clear S0 e0
    rintro _ K5 ⟨k0, S0, e0, rfl⟩
    refine ⟨fun σ' H' => ∃ k, Same H3 H' ∧ H' k = some (.lst (List.replicate 15 v)) ∧ σ' = [some (.ref a), some (.int (0 + (i : Int))), some (.ref p), some v, some (.ref l), o5, some (.ref k), o7, o8], ?_, ?_⟩
    · refine ⟨.ref k0, rfl, ⟨v, rfl, fun a13 J13 S13' X13 => X13.elim fun dx13 z13 => ⟨a13, C13, dx13, _, v, rfl, M13.xf, M13.vl, z13.1, z13.2, look1, ⟨v, rfl, fun a14 J14 S14' X14 => X14.elim fun dx14 z14 => ⟨a14, C14, dx14, _, v, rfl, M14.xf, M14.vl, z14.1, z14.2, look1, ⟨(by show 2 ≤ sizeLine; decide), fun k hk => ?_⟩⟩⟩⟩⟩⟩
      have T := (S13'.trans S14').trans (same_new (o := .lst [v, v]) hk)
      have here := upd_same (H := J14) (a := k) (o := .lst [v, v])
      generalize upd J14 k (.lst [v, v]) = W at *
      refine ⟨k0, k, _, _, rfl, rfl, T _ _ e0, here, (by show 13 + 2 ≤ sizeLine; decide), fun k2 hk2 => ?_⟩
      exact ⟨k2, (S0.trans T).trans (same_new hk2), upd_same, rfl⟩
    clear S0 e0
    -- their texts
    rintro _ G ⟨k, SG, eG, rfl⟩
    have one := one3.same SG
    have hk : SqL K G k (List.replicate 15 v) := .inl (.inl eG)
    refine ⟨.ref k, rfl, k, rfl, ⟨_, hk⟩, fun D hD => ?_⟩
    refine lc_list (K := K) (a := k) (xs := List.replicate 15 v) (fun i H' => Same G H' ∧ H' D = some (.lst (List.replicate i (V.str (oneT j))))) ⟨same_new hD, upd_same⟩ (fun i H' _ z => .inl (.inl (z.1 _ _ eG))) (fun i2 x H' hx z => ?_) (fun H' z => ?_)
    · obtain ⟨S7, eD⟩ := z
      have xv : x = v := List.eq_of_mem_replicate (List.mem_of_getElem? hx)
      subst xv
      have i15 : i2 < 15 := by
        have z := (List.getElem?_eq_some_iff.mp hx).1
        rwa [List.length_replicate] at z
      refine ⟨rfl, x, rfl, x, j, rfl, j12, one.same S7, _, eD, (by rw [List.length_replicate]; exact Nat.lt_trans i15 (by decide)), ?_⟩
      refine ⟨fun b o e => ?_, ?_⟩
      · rw [upd_ne (ne_of_none e hD)]
        exact S7 _ _ e
      · rw [upd_same, List.replicate_succ']
    · obtain ⟨S7, eD⟩ := z
      have eD : H' D = some (.lst (List.replicate 15 (V.str (oneT j)))) := eD
      refine ⟨v, rfl, v, j, rfl, j12, one.same S7, (by show 1 ≤ sizeLine; decide), fun l1 h1 => ⟨l1, 15, _, rfl, rfl, upd_same, by decide, by decide, (by show 1 * 15 ≤ sizeLine; decide), fun l2 h2 => ?_⟩⟩
      have ok : PyData.strOk (oneT j) = true := List.all_eq_true.mp one_text j (List.mem_range.mpr j12)
      have U1 := same_new (o := .lst [V.str (oneT j)]) h1
      have U2 := same_new (o := .lst (List.replicate (15 : Int).toNat [V.str (oneT j)]).flatten) h2
      refine ⟨_, _, dp_texts (n := 15) (U2 _ _ (U1 _ _ eD)), dp_texts (n := 15) upd_same, texts_shaped ok, texts_shaped ok, ?_⟩
      rw [texts_eq]
      exact ⟨false, rfl, iteF ⟨S1.trans ((S3.trans SG).trans ((S7.trans U1).trans U2)), _, _, _, _, _, _, _, _, rfl⟩⟩
end
end Vf

set_option Elab.async false
set_option linter.all false
set_option maxRecDepth 100000
namespace Vf
open PySem PySem.Spec PyProof.Rows L2 PySem.W
set_option maxHeartbeats 0 in
theorem all_mk {l : PySem.W.OpenLaw} {w : World} {K : Frag} {h : Heap} {mg : Str → Option Value} {fa CB C0 C1 C2 C3 C4 C5 C6 C7 C8 C9 C10 C11 C12 C13 C14 C15 f0 f1 f2 f3 f4 f5 f6 g0 g1 g2 g3 g4 g5 g6 g7 g8 g9 g10 g11 g12 g13 g14 g16 xN0 xN1 xN2 xN3 xN4 xN5 xN6 xN7 xN8 xN9 xN10 xN11 xN12 xN13 xN14 : Addr} (X : K.In h) (G : h.Ns mainGlobals mg) (hfa : mg "law" = some (.ref fa))
    {od0 an0 od1 an1 od2 an2 od3 an3 od4 an4 od5 an5 od6 an6 xod0 xan0 xod1 xan1 xod2 xan2 xod3 xan3 xod4 xan4 xod5 xan5 xod6 xan6 xod7 xan7 xod8 xan8 xod9 xan9 xod10 xan10 xod11 xan11 xod12 xan12 xod13 xan13 xod14 xan14 xod16 xan16 xd0 xd1 xd2 xd3 xd4 xd5 xd6 xd7 xd8 xd9 xd10 xd11 xd12 xd13 xd14 : Option Addr} {sl0 sl1 sl2 sl3 sl4 sl5 sl6 xsl0 xsl1 xsl2 xsl3 xsl4 xsl5 xsl6 xsl7 xsl8 xsl9 xsl10 xsl11 xsl12 xsl13 xsl14 xsl16 : Array (Option Value)} {oc0 kV0 dc0 pm0 cd0 ct0 oc1 kV1 dc1 pm1 cd1 ct1 oc2 kV2 dc2 pm2 cd2 ct2 oc3 kV3 dc3 pm3 cd3 ct3 oc4 kV4 dc4 pm4 cd4 ct4 oc5 kV5 dc5 pm5 cd5 ct5 oc6 kV6 dc6 pm6 cd6 ct6 xoc0 xkV0 xdc0 xpm0 xcd0 xct0 xoc1 xkV1 xdc1 xpm1 xcd1 xct1 xoc2 xkV2 xdc2 xpm2 xcd2 xct2 xoc3 xkV3 xdc3 xpm3 xcd3 xct3 xoc4 xkV4 xdc4 xpm4 xcd4 xct4 xoc5 xkV5 xdc5 xpm5 xcd5 xct5 xoc6 xkV6 xdc6 xpm6 xcd6 xct6 xoc7 xkV7 xdc7 xpm7 xcd7 xct7 xoc8 xkV8 xdc8 xpm8 xcd8 xct8 xoc9 xkV9 xdc9 xpm9 xcd9 xct9 xoc10 xkV10 xdc10 xpm10 xcd10 xct10 xoc11 xkV11 xdc11 xpm11 xcd11 xct11 xoc12 xkV12 xdc12 xpm12 xcd12 xct12 xoc13 xkV13 xdc13 xpm13 xcd13 xct13 xoc14 xkV14 xdc14 xpm14 xcd14 xct14 xoc16 xkV16 xdc16 xpm16 xcd16 xct16 : Value}
    {xn0 xq0 xn1 xq1 xn2 xq2 xn3 xq3 xn4 xq4 xn5 xq5 xn6 xq6 xn7 xq7 xn8 xq8 xn9 xq9 xn10 xq10 xn11 xq11 xn12 xq12 xn13 xq13 xn14 xq14 : PySem.Str} {xb0 xu0 xb1 xu1 xb2 xu2 xb3 xu3 xb4 xu4 xb5 xu5 xb6 xu6 xb7 xu7 xb8 xu8 xb9 xu9 xb10 xu10 xb11 xu11 xb12 xu12 xb13 xu13 xb14 xu14 : List Value} {xs0 xs1 xs2 xs3 xs4 xs5 xs6 xs7 xs8 xs9 xs10 xs11 xs12 xs13 xs14 : List PySem.Str} {xv0 xv1 xv2 xv3 xv4 xv5 xv6 xv7 xv8 xv9 xv10 xv11 xv12 xv13 xv14 : Bool} {xc0 xc1 xc2 xc3 xc4 xc5 xc6 xc7 xc8 xc9 xc10 xc11 xc12 xc13 xc14 : Option Bool} {y00 y01 y02 y03 y05 y10 y11 y12 y13 y15 y20 y21 y22 y23 y25 y30 y31 y32 y33 y35 y40 y41 y42 y43 y45 y50 y51 y52 y53 y55 y60 y61 y62 y63 y65 y70 y71 y72 y73 y75 y80 y81 y82 y83 y85 y90 y91 y92 y93 y95 y100 y101 y102 y103 y105 y110 y111 y112 y113 y115 y120 y121 y122 y123 y125 y130 y131 y132 y133 y135 y140 y141 y142 y143 y145 : Option Value}
    (a0 : nsIn K mainGlobals "_law_pool" = some (some (.ref f0)))
    (l0 : K.lookup f0 = some ⟨oc0, od0, .func (PySem.W.fnOf "_law_pool" "_law_pool" (defArgs sPool) (defBody sPool) (defScope sPool) .none kV0 dc0 pm0 an0 cd0 ct0), sl0⟩)
    (c0 : codeIn K cd0 "_law_pool" = true)
    (k0 : keepIn K (.ref f0) = true)
    (a1 : nsIn K mainGlobals "_law_take" = some (some (.ref f1)))
    (l1 : K.lookup f1 = some ⟨oc1, od1, .func (PySem.W.fnOf "_law_take" "_law_take" (defArgs sTake) (defBody sTake) (defScope sTake) .none kV1 dc1 pm1 an1 cd1 ct1), sl1⟩)
    (c1 : codeIn K cd1 "_law_take" = true)
    (k1 : keepIn K (.ref f1) = true)
    (a2 : nsIn K mainGlobals "_law_some" = some (some (.ref f2)))
    (l2 : K.lookup f2 = some ⟨oc2, od2, .func (PySem.W.fnOf "_law_some" "_law_some" (defArgs sL_some) (defBody sL_some) (defScope sL_some) .none kV2 dc2 pm2 an2 cd2 ct2), sl2⟩)
    (c2 : codeIn K cd2 "_law_some" = true)
    (k2 : keepIn K (.ref f2) = true)
    (a3 : nsIn K mainGlobals "_law_kinds" = some (some (.ref f3)))
    (l3 : K.lookup f3 = some ⟨oc3, od3, .func (PySem.W.fnOf "_law_kinds" "_law_kinds" (defArgs sL_kinds) (defBody sL_kinds) (defScope sL_kinds) .none kV3 dc3 pm3 an3 cd3 ct3), sl3⟩)
    (c3 : codeIn K cd3 "_law_kinds" = true)
    (k3 : keepIn K (.ref f3) = true)
    (a4 : nsIn K mainGlobals "_law_roots" = some (some (.ref f4)))
    (l4 : K.lookup f4 = some ⟨oc4, od4, .func (PySem.W.fnOf "_law_roots" "_law_roots" (defArgs sL_roots) (defBody sL_roots) (defScope sL_roots) .none kV4 dc4 pm4 an4 cd4 ct4), sl4⟩)
    (c4 : codeIn K cd4 "_law_roots" = true)
    (k4 : keepIn K (.ref f4) = true)
    (a5 : nsIn K mainGlobals "_law_due" = some (some (.ref f5)))
    (l5 : K.lookup f5 = some ⟨oc5, od5, .func (PySem.W.fnOf "_law_due" "_law_due" (defArgs sL_due) (defBody sL_due) (defScope sL_due) .none kV5 dc5 pm5 an5 cd5 ct5), sl5⟩)
    (c5 : codeIn K cd5 "_law_due" = true)
    (k5 : keepIn K (.ref f5) = true)
    (a6 : nsIn K mainGlobals "law" = some (some (.ref f6)))
    (l6 : K.lookup f6 = some ⟨oc6, od6, .func (PySem.W.fnOf "law" "law" (defArgs sLaw) (defBody sLaw) (defScope sLaw) .none kV6 dc6 pm6 an6 cd6 ct6), sl6⟩)
    (c6 : codeIn K cd6 "law" = true)
    (k6 : keepIn K (.ref f6) = true)
    (xa0 : nsIn K mainGlobals "InvalidBox" = some (some (.ref C0)))
    (xL0 : K.lookup C0 = some (PySem.excClassObj xn0 xq0 C0 xN0 xb0 (.ref CB :: bbV) true xs0 xu0 xv0 xc0 xd0 y00 y01 y02 y03 y05 "ValueError.__new__"))
    (xsa0 : findIn K (.ref C0) "__setattr__" = some (some (.builtin "object.__setattr__")))
    (xv_0 : findIn K (.ref C0) "value" = some none)
    (xi0 : findIn K (.ref C0) "__init__" = some (some (.ref g0)))
    (xti0 : typeIn K (.ref g0) = some (.type "function"))
    (xl0 : K.lookup g0 = some ⟨xoc0, xod0, .func (PySem.W.fnOf "__init__" "InvalidBox.__init__" (defArgs sC_InvalidBox_init) (defBody sC_InvalidBox_init) (defScope sC_InvalidBox_init) .none xkV0 xdc0 xpm0 xan0 xcd0 xct0), xsl0⟩)
    (xcc0 : codeIn K xcd0 "InvalidBox.__init__" = true)
    (xkk0 : keepIn K (.ref g0) = true)
    (xk0 : keepIn K (.ref C0) = true)
    (xe0 : subIn K (.ref C0) (.type "BaseException") = some true)
    (xga0 : findIn K (.ref C0) "__getattribute__" = some (some (.builtin "BaseException.__getattribute__")))
    (xgg0 : findIn K (.ref C0) "__getattr__" = some none)
    (xh0 : hasDictIn K C0 = true)
    (xw0 : findIn K (.ref C0) "__class__" = some (some (.builtin "object.__class__")))
    (xm0 : mroIn K C0 (.type "object") = some true)
    (xa1 : nsIn K mainGlobals "InvalidSquare" = some (some (.ref C1)))
    (xL1 : K.lookup C1 = some (PySem.excClassObj xn1 xq1 C1 xN1 xb1 (.ref CB :: bbV) true xs1 xu1 xv1 xc1 xd1 y10 y11 y12 y13 y15 "ValueError.__new__"))
    (xsa1 : findIn K (.ref C1) "__setattr__" = some (some (.builtin "object.__setattr__")))
    (xv_1 : findIn K (.ref C1) "value" = some none)
    (xi1 : findIn K (.ref C1) "__init__" = some (some (.ref g1)))
    (xti1 : typeIn K (.ref g1) = some (.type "function"))
    (xl1 : K.lookup g1 = some ⟨xoc1, xod1, .func (PySem.W.fnOf "__init__" "InvalidSquare.__init__" (defArgs sC_InvalidSquare_init) (defBody sC_InvalidSquare_init) (defScope sC_InvalidSquare_init) .none xkV1 xdc1 xpm1 xan1 xcd1 xct1), xsl1⟩)
    (xcc1 : codeIn K xcd1 "InvalidSquare.__init__" = true)
    (xkk1 : keepIn K (.ref g1) = true)
    (xk1 : keepIn K (.ref C1) = true)
    (xe1 : subIn K (.ref C1) (.type "BaseException") = some true)
    (xga1 : findIn K (.ref C1) "__getattribute__" = some (some (.builtin "BaseException.__getattribute__")))
    (xgg1 : findIn K (.ref C1) "__getattr__" = some none)
    (xh1 : hasDictIn K C1 = true)
    (xw1 : findIn K (.ref C1) "__class__" = some (some (.builtin "object.__class__")))
    (xm1 : mroIn K C1 (.type "object") = some true)
    (xa2 : nsIn K mainGlobals "InvalidRegion" = some (some (.ref C2)))
    (xL2 : K.lookup C2 = some (PySem.excClassObj xn2 xq2 C2 xN2 xb2 (.ref CB :: bbV) true xs2 xu2 xv2 xc2 xd2 y20 y21 y22 y23 y25 "ValueError.__new__"))
    (xsa2 : findIn K (.ref C2) "__setattr__" = some (some (.builtin "object.__setattr__")))
    (xv_2 : findIn K (.ref C2) "value" = some none)
    (xi2 : findIn K (.ref C2) "__init__" = some (some (.ref g2)))
    (xti2 : typeIn K (.ref g2) = some (.type "function"))
    (xl2 : K.lookup g2 = some ⟨xoc2, xod2, .func (PySem.W.fnOf "__init__" "InvalidRegion.__init__" (defArgs sC_InvalidRegion_init) (defBody sC_InvalidRegion_init) (defScope sC_InvalidRegion_init) .none xkV2 xdc2 xpm2 xan2 xcd2 xct2), xsl2⟩)
    (xcc2 : codeIn K xcd2 "InvalidRegion.__init__" = true)
    (xkk2 : keepIn K (.ref g2) = true)
    (xk2 : keepIn K (.ref C2) = true)
    (xe2 : subIn K (.ref C2) (.type "BaseException") = some true)
    (xga2 : findIn K (.ref C2) "__getattribute__" = some (some (.builtin "BaseException.__getattribute__")))
    (xgg2 : findIn K (.ref C2) "__getattr__" = some none)
    (xh2 : hasDictIn K C2 = true)
    (xw2 : findIn K (.ref C2) "__class__" = some (some (.builtin "object.__class__")))
    (xm2 : mroIn K C2 (.type "object") = some true)
    (xa3 : nsIn K mainGlobals "InvalidNumber" = some (some (.ref C3)))
    (xL3 : K.lookup C3 = some (PySem.excClassObj xn3 xq3 C3 xN3 xb3 (.ref CB :: bbV) true xs3 xu3 xv3 xc3 xd3 y30 y31 y32 y33 y35 "ValueError.__new__"))
    (xsa3 : findIn K (.ref C3) "__setattr__" = some (some (.builtin "object.__setattr__")))
    (xv_3 : findIn K (.ref C3) "value" = some none)
    (xi3 : findIn K (.ref C3) "__init__" = some (some (.ref g3)))
    (xti3 : typeIn K (.ref g3) = some (.type "function"))
    (xl3 : K.lookup g3 = some ⟨xoc3, xod3, .func (PySem.W.fnOf "__init__" "InvalidNumber.__init__" (defArgs sC_InvalidNumber_init) (defBody sC_InvalidNumber_init) (defScope sC_InvalidNumber_init) .none xkV3 xdc3 xpm3 xan3 xcd3 xct3), xsl3⟩)
    (xcc3 : codeIn K xcd3 "InvalidNumber.__init__" = true)
    (xkk3 : keepIn K (.ref g3) = true)
    (xk3 : keepIn K (.ref C3) = true)
    (xe3 : subIn K (.ref C3) (.type "BaseException") = some true)
    (xga3 : findIn K (.ref C3) "__getattribute__" = some (some (.builtin "BaseException.__getattribute__")))
    (xgg3 : findIn K (.ref C3) "__getattr__" = some none)
    (xh3 : hasDictIn K C3 = true)
    (xw3 : findIn K (.ref C3) "__class__" = some (some (.builtin "object.__class__")))
    (xm3 : mroIn K C3 (.type "object") = some true)
    (xa4 : nsIn K mainGlobals "InvalidLoops" = some (some (.ref C4)))
    (xL4 : K.lookup C4 = some (PySem.excClassObj xn4 xq4 C4 xN4 xb4 (.ref CB :: bbV) true xs4 xu4 xv4 xc4 xd4 y40 y41 y42 y43 y45 "ValueError.__new__"))
    (xsa4 : findIn K (.ref C4) "__setattr__" = some (some (.builtin "object.__setattr__")))
    (xv_4 : findIn K (.ref C4) "value" = some none)
    (xi4 : findIn K (.ref C4) "__init__" = some (some (.ref g4)))
    (xti4 : typeIn K (.ref g4) = some (.type "function"))
    (xl4 : K.lookup g4 = some ⟨xoc4, xod4, .func (PySem.W.fnOf "__init__" "InvalidLoops.__init__" (defArgs sC_InvalidLoops_init) (defBody sC_InvalidLoops_init) (defScope sC_InvalidLoops_init) .none xkV4 xdc4 xpm4 xan4 xcd4 xct4), xsl4⟩)
    (xcc4 : codeIn K xcd4 "InvalidLoops.__init__" = true)
    (xkk4 : keepIn K (.ref g4) = true)
    (xk4 : keepIn K (.ref C4) = true)
    (xe4 : subIn K (.ref C4) (.type "BaseException") = some true)
    (xga4 : findIn K (.ref C4) "__getattribute__" = some (some (.builtin "BaseException.__getattribute__")))
    (xgg4 : findIn K (.ref C4) "__getattr__" = some none)
    (xh4 : hasDictIn K C4 = true)
    (xw4 : findIn K (.ref C4) "__class__" = some (some (.builtin "object.__class__")))
    (xm4 : mroIn K C4 (.type "object") = some true)
    (xa5 : nsIn K mainGlobals "InvalidAxis" = some (some (.ref C5)))
    (xL5 : K.lookup C5 = some (PySem.excClassObj xn5 xq5 C5 xN5 xb5 (.ref CB :: bbV) true xs5 xu5 xv5 xc5 xd5 y50 y51 y52 y53 y55 "ValueError.__new__"))
    (xsa5 : findIn K (.ref C5) "__setattr__" = some (some (.builtin "object.__setattr__")))
    (xv_5 : findIn K (.ref C5) "value" = some none)
    (xi5 : findIn K (.ref C5) "__init__" = some (some (.ref g5)))
    (xti5 : typeIn K (.ref g5) = some (.type "function"))
    (xl5 : K.lookup g5 = some ⟨xoc5, xod5, .func (PySem.W.fnOf "__init__" "InvalidAxis.__init__" (defArgs sC_InvalidAxis_init) (defBody sC_InvalidAxis_init) (defScope sC_InvalidAxis_init) .none xkV5 xdc5 xpm5 xan5 xcd5 xct5), xsl5⟩)
    (xcc5 : codeIn K xcd5 "InvalidAxis.__init__" = true)
    (xkk5 : keepIn K (.ref g5) = true)
    (xk5 : keepIn K (.ref C5) = true)
    (xe5 : subIn K (.ref C5) (.type "BaseException") = some true)
    (xga5 : findIn K (.ref C5) "__getattribute__" = some (some (.builtin "BaseException.__getattribute__")))
    (xgg5 : findIn K (.ref C5) "__getattr__" = some none)
    (xh5 : hasDictIn K C5 = true)
    (xw5 : findIn K (.ref C5) "__class__" = some (some (.builtin "object.__class__")))
    (xm5 : mroIn K C5 (.type "object") = some true)
    (xa6 : nsIn K mainGlobals "InvalidSpans" = some (some (.ref C6)))
    (xL6 : K.lookup C6 = some (PySem.excClassObj xn6 xq6 C6 xN6 xb6 (.ref CB :: bbV) true xs6 xu6 xv6 xc6 xd6 y60 y61 y62 y63 y65 "ValueError.__new__"))
    (xsa6 : findIn K (.ref C6) "__setattr__" = some (some (.builtin "object.__setattr__")))
    (xv_6 : findIn K (.ref C6) "value" = some none)
    (xi6 : findIn K (.ref C6) "__init__" = some (some (.ref g6)))
    (xti6 : typeIn K (.ref g6) = some (.type "function"))
    (xl6 : K.lookup g6 = some ⟨xoc6, xod6, .func (PySem.W.fnOf "__init__" "InvalidSpans.__init__" (defArgs sC_InvalidSpans_init) (defBody sC_InvalidSpans_init) (defScope sC_InvalidSpans_init) .none xkV6 xdc6 xpm6 xan6 xcd6 xct6), xsl6⟩)
    (xcc6 : codeIn K xcd6 "InvalidSpans.__init__" = true)
    (xkk6 : keepIn K (.ref g6) = true)
    (xk6 : keepIn K (.ref C6) = true)
    (xe6 : subIn K (.ref C6) (.type "BaseException") = some true)
    (xga6 : findIn K (.ref C6) "__getattribute__" = some (some (.builtin "BaseException.__getattribute__")))
    (xgg6 : findIn K (.ref C6) "__getattr__" = some none)
    (xh6 : hasDictIn K C6 = true)
    (xw6 : findIn K (.ref C6) "__class__" = some (some (.builtin "object.__class__")))
    (xm6 : mroIn K C6 (.type "object") = some true)
    (xa7 : nsIn K mainGlobals "InvalidName" = some (some (.ref C7)))
    (xL7 : K.lookup C7 = some (PySem.excClassObj xn7 xq7 C7 xN7 xb7 (.ref CB :: bbV) true xs7 xu7 xv7 xc7 xd7 y70 y71 y72 y73 y75 "ValueError.__new__"))
    (xsa7 : findIn K (.ref C7) "__setattr__" = some (some (.builtin "object.__setattr__")))
    (xv_7 : findIn K (.ref C7) "value" = some none)
    (xi7 : findIn K (.ref C7) "__init__" = some (some (.ref g7)))
    (xti7 : typeIn K (.ref g7) = some (.type "function"))
    (xl7 : K.lookup g7 = some ⟨xoc7, xod7, .func (PySem.W.fnOf "__init__" "InvalidName.__init__" (defArgs sC_InvalidName_init) (defBody sC_InvalidName_init) (defScope sC_InvalidName_init) .none xkV7 xdc7 xpm7 xan7 xcd7 xct7), xsl7⟩)
    (xcc7 : codeIn K xcd7 "InvalidName.__init__" = true)
    (xkk7 : keepIn K (.ref g7) = true)
    (xk7 : keepIn K (.ref C7) = true)
    (xe7 : subIn K (.ref C7) (.type "BaseException") = some true)
    (xga7 : findIn K (.ref C7) "__getattribute__" = some (some (.builtin "BaseException.__getattribute__")))
    (xgg7 : findIn K (.ref C7) "__getattr__" = some none)
    (xh7 : hasDictIn K C7 = true)
    (xw7 : findIn K (.ref C7) "__class__" = some (some (.builtin "object.__class__")))
    (xm7 : mroIn K C7 (.type "object") = some true)
    (xa8 : nsIn K mainGlobals "InvalidText" = some (some (.ref C8)))
    (xL8 : K.lookup C8 = some (PySem.excClassObj xn8 xq8 C8 xN8 xb8 (.ref CB :: bbV) true xs8 xu8 xv8 xc8 xd8 y80 y81 y82 y83 y85 "ValueError.__new__"))
    (xsa8 : findIn K (.ref C8) "__setattr__" = some (some (.builtin "object.__setattr__")))
    (xv_8 : findIn K (.ref C8) "value" = some none)
    (xi8 : findIn K (.ref C8) "__init__" = some (some (.ref g8)))
    (xti8 : typeIn K (.ref g8) = some (.type "function"))
    (xl8 : K.lookup g8 = some ⟨xoc8, xod8, .func (PySem.W.fnOf "__init__" "InvalidText.__init__" (defArgs sC_InvalidText_init) (defBody sC_InvalidText_init) (defScope sC_InvalidText_init) .none xkV8 xdc8 xpm8 xan8 xcd8 xct8), xsl8⟩)
    (xcc8 : codeIn K xcd8 "InvalidText.__init__" = true)
    (xkk8 : keepIn K (.ref g8) = true)
    (xk8 : keepIn K (.ref C8) = true)
    (xe8 : subIn K (.ref C8) (.type "BaseException") = some true)
    (xga8 : findIn K (.ref C8) "__getattribute__" = some (some (.builtin "BaseException.__getattribute__")))
    (xgg8 : findIn K (.ref C8) "__getattr__" = some none)
    (xh8 : hasDictIn K C8 = true)
    (xw8 : findIn K (.ref C8) "__class__" = some (some (.builtin "object.__class__")))
    (xm8 : mroIn K C8 (.type "object") = some true)
    (xa9 : nsIn K mainGlobals "InvalidLine" = some (some (.ref C9)))
    (xL9 : K.lookup C9 = some (PySem.excClassObj xn9 xq9 C9 xN9 xb9 (.ref CB :: bbV) true xs9 xu9 xv9 xc9 xd9 y90 y91 y92 y93 y95 "ValueError.__new__"))
    (xsa9 : findIn K (.ref C9) "__setattr__" = some (some (.builtin "object.__setattr__")))
    (xv_9 : findIn K (.ref C9) "value" = some none)
    (xi9 : findIn K (.ref C9) "__init__" = some (some (.ref g9)))
    (xti9 : typeIn K (.ref g9) = some (.type "function"))
    (xl9 : K.lookup g9 = some ⟨xoc9, xod9, .func (PySem.W.fnOf "__init__" "InvalidLine.__init__" (defArgs sC_InvalidLine_init) (defBody sC_InvalidLine_init) (defScope sC_InvalidLine_init) .none xkV9 xdc9 xpm9 xan9 xcd9 xct9), xsl9⟩)
    (xcc9 : codeIn K xcd9 "InvalidLine.__init__" = true)
    (xkk9 : keepIn K (.ref g9) = true)
    (xk9 : keepIn K (.ref C9) = true)
    (xe9 : subIn K (.ref C9) (.type "BaseException") = some true)
    (xga9 : findIn K (.ref C9) "__getattribute__" = some (some (.builtin "BaseException.__getattribute__")))
    (xgg9 : findIn K (.ref C9) "__getattr__" = some none)
    (xh9 : hasDictIn K C9 = true)
    (xw9 : findIn K (.ref C9) "__class__" = some (some (.builtin "object.__class__")))
    (xm9 : mroIn K C9 (.type "object") = some true)
    (xa10 : nsIn K mainGlobals "Outside" = some (some (.ref C10)))
    (xL10 : K.lookup C10 = some (PySem.excClassObj xn10 xq10 C10 xN10 xb10 (.ref CB :: bbV) true xs10 xu10 xv10 xc10 xd10 y100 y101 y102 y103 y105 "ValueError.__new__"))
    (xsa10 : findIn K (.ref C10) "__setattr__" = some (some (.builtin "object.__setattr__")))
    (xv_10 : findIn K (.ref C10) "value" = some none)
    (xi10 : findIn K (.ref C10) "__init__" = some (some (.ref g10)))
    (xti10 : typeIn K (.ref g10) = some (.type "function"))
    (xl10 : K.lookup g10 = some ⟨xoc10, xod10, .func (PySem.W.fnOf "__init__" "Outside.__init__" (defArgs sC_Outside_init) (defBody sC_Outside_init) (defScope sC_Outside_init) .none xkV10 xdc10 xpm10 xan10 xcd10 xct10), xsl10⟩)
    (xcc10 : codeIn K xcd10 "Outside.__init__" = true)
    (xkk10 : keepIn K (.ref g10) = true)
    (xk10 : keepIn K (.ref C10) = true)
    (xe10 : subIn K (.ref C10) (.type "BaseException") = some true)
    (xga10 : findIn K (.ref C10) "__getattribute__" = some (some (.builtin "BaseException.__getattribute__")))
    (xgg10 : findIn K (.ref C10) "__getattr__" = some none)
    (xh10 : hasDictIn K C10 = true)
    (xw10 : findIn K (.ref C10) "__class__" = some (some (.builtin "object.__class__")))
    (xm10 : mroIn K C10 (.type "object") = some true)
    (xa11 : nsIn K mainGlobals "Unbounded" = some (some (.ref C11)))
    (xL11 : K.lookup C11 = some (PySem.excClassObj xn11 xq11 C11 xN11 xb11 bbR true xs11 xu11 xv11 xc11 xd11 y110 y111 y112 y113 y115 "RuntimeError.__new__"))
    (xsa11 : findIn K (.ref C11) "__setattr__" = some (some (.builtin "object.__setattr__")))
    (xv_11 : findIn K (.ref C11) "value" = some none)
    (xi11 : findIn K (.ref C11) "__init__" = some (some (.ref g11)))
    (xti11 : typeIn K (.ref g11) = some (.type "function"))
    (xl11 : K.lookup g11 = some ⟨xoc11, xod11, .func (PySem.W.fnOf "__init__" "Unbounded.__init__" (defArgs sC_Unbounded_init) (defBody sC_Unbounded_init) (defScope sC_Unbounded_init) .none xkV11 xdc11 xpm11 xan11 xcd11 xct11), xsl11⟩)
    (xcc11 : codeIn K xcd11 "Unbounded.__init__" = true)
    (xkk11 : keepIn K (.ref g11) = true)
    (xk11 : keepIn K (.ref C11) = true)
    (xe11 : subIn K (.ref C11) (.type "BaseException") = some true)
    (xga11 : findIn K (.ref C11) "__getattribute__" = some (some (.builtin "BaseException.__getattribute__")))
    (xgg11 : findIn K (.ref C11) "__getattr__" = some none)
    (xh11 : hasDictIn K C11 = true)
    (xw11 : findIn K (.ref C11) "__class__" = some (some (.builtin "object.__class__")))
    (xm11 : mroIn K C11 (.type "object") = some true)
    (xa12 : nsIn K mainGlobals "Blocked" = some (some (.ref C12)))
    (xL12 : K.lookup C12 = some (PySem.excClassObj xn12 xq12 C12 xN12 xb12 bbR true xs12 xu12 xv12 xc12 xd12 y120 y121 y122 y123 y125 "RuntimeError.__new__"))
    (xsa12 : findIn K (.ref C12) "__setattr__" = some (some (.builtin "object.__setattr__")))
    (xv_12 : findIn K (.ref C12) "value" = some none)
    (xi12 : findIn K (.ref C12) "__init__" = some (some (.ref g12)))
    (xti12 : typeIn K (.ref g12) = some (.type "function"))
    (xl12 : K.lookup g12 = some ⟨xoc12, xod12, .func (PySem.W.fnOf "__init__" "Blocked.__init__" (defArgs sC_Blocked_init) (defBody sC_Blocked_init) (defScope sC_Blocked_init) .none xkV12 xdc12 xpm12 xan12 xcd12 xct12), xsl12⟩)
    (xcc12 : codeIn K xcd12 "Blocked.__init__" = true)
    (xkk12 : keepIn K (.ref g12) = true)
    (xk12 : keepIn K (.ref C12) = true)
    (xe12 : subIn K (.ref C12) (.type "BaseException") = some true)
    (xga12 : findIn K (.ref C12) "__getattribute__" = some (some (.builtin "BaseException.__getattribute__")))
    (xgg12 : findIn K (.ref C12) "__getattr__" = some none)
    (xh12 : hasDictIn K C12 = true)
    (xw12 : findIn K (.ref C12) "__class__" = some (some (.builtin "object.__class__")))
    (xm12 : mroIn K C12 (.type "object") = some true)
    (xa13 : nsIn K mainGlobals "TooMany" = some (some (.ref C13)))
    (xL13 : K.lookup C13 = some (PySem.excClassObj xn13 xq13 C13 xN13 xb13 bbO true xs13 xu13 xv13 xc13 xd13 y130 y131 y132 y133 y135 "OverflowError.__new__"))
    (xsa13 : findIn K (.ref C13) "__setattr__" = some (some (.builtin "object.__setattr__")))
    (xv_13 : findIn K (.ref C13) "value" = some none)
    (xi13 : findIn K (.ref C13) "__init__" = some (some (.ref g13)))
    (xti13 : typeIn K (.ref g13) = some (.type "function"))
    (xl13 : K.lookup g13 = some ⟨xoc13, xod13, .func (PySem.W.fnOf "__init__" "TooMany.__init__" (defArgs sC_TooMany_init) (defBody sC_TooMany_init) (defScope sC_TooMany_init) .none xkV13 xdc13 xpm13 xan13 xcd13 xct13), xsl13⟩)
    (xcc13 : codeIn K xcd13 "TooMany.__init__" = true)
    (xkk13 : keepIn K (.ref g13) = true)
    (xk13 : keepIn K (.ref C13) = true)
    (xe13 : subIn K (.ref C13) (.type "BaseException") = some true)
    (xga13 : findIn K (.ref C13) "__getattribute__" = some (some (.builtin "BaseException.__getattribute__")))
    (xgg13 : findIn K (.ref C13) "__getattr__" = some none)
    (xh13 : hasDictIn K C13 = true)
    (xw13 : findIn K (.ref C13) "__class__" = some (some (.builtin "object.__class__")))
    (xm13 : mroIn K C13 (.type "object") = some true)
    (xa14 : nsIn K mainGlobals "NoName" = some (some (.ref C14)))
    (xL14 : K.lookup C14 = some (PySem.excClassObj xn14 xq14 C14 xN14 xb14 bbK true xs14 xu14 xv14 xc14 xd14 y140 y141 y142 y143 y145 "LookupError.__new__"))
    (xsa14 : findIn K (.ref C14) "__setattr__" = some (some (.builtin "object.__setattr__")))
    (xv_14 : findIn K (.ref C14) "value" = some none)
    (xi14 : findIn K (.ref C14) "__init__" = some (some (.ref g14)))
    (xti14 : typeIn K (.ref g14) = some (.type "function"))
    (xl14 : K.lookup g14 = some ⟨xoc14, xod14, .func (PySem.W.fnOf "__init__" "NoName.__init__" (defArgs sC_NoName_init) (defBody sC_NoName_init) (defScope sC_NoName_init) .none xkV14 xdc14 xpm14 xan14 xcd14 xct14), xsl14⟩)
    (xcc14 : codeIn K xcd14 "NoName.__init__" = true)
    (xkk14 : keepIn K (.ref g14) = true)
    (xk14 : keepIn K (.ref C14) = true)
    (xe14 : subIn K (.ref C14) (.type "BaseException") = some true)
    (xga14 : findIn K (.ref C14) "__getattribute__" = some (some (.builtin "BaseException.__getattribute__")))
    (xgg14 : findIn K (.ref C14) "__getattr__" = some none)
    (xh14 : hasDictIn K C14 = true)
    (xw14 : findIn K (.ref C14) "__class__" = some (some (.builtin "object.__class__")))
    (xm14 : mroIn K C14 (.type "object") = some true)
    (xa15 : nsIn K mainGlobals "NothingLeft" = some (some (.ref C15)))
    (xq : excIn K C15 bbI "IndexError.__new__" = true)
    (xk15 : keepIn K (.ref C15) = true)
    (xe15 : subIn K (.ref C15) (.type "BaseException") = some true)
    (xga15 : findIn K (.ref C15) "__getattribute__" = some (some (.builtin "BaseException.__getattribute__")))
    (xgg15 : findIn K (.ref C15) "__getattr__" = some none)
    (xh15 : hasDictIn K C15 = true)
    (xw15 : findIn K (.ref C15) "__class__" = some (some (.builtin "object.__class__")))
    (xm15 : mroIn K C15 (.type "object") = some true)
    (xcn : specialIn K (.builtin "object.__class__") "__get__" = some (some (.builtin "getset_descriptor.__get__")))
    (xct : takesIn K (.builtin "object.__class__") = some true)
    (xaB : nsIn K mainGlobals "BoxError" = some (some (.ref CB)))
    (xrB : readsIn K CB (.type "type") = true)
    (xgB : specialIn K (.ref CB) "__getattribute__" = some (some (.builtin "type.__getattribute__")))
    (xfB : findCls K (.ref CB) (.type "type") "__init__" = some (.val (.ref g16)))
    (xlB : K.lookup g16 = some ⟨xoc16, xod16, .func (PySem.W.fnOf "__init__" "BoxError.__init__" (defArgs sC_BoxError_init) (defBody sC_BoxError_init) (defScope sC_BoxError_init) .none xkV16 xdc16 xpm16 xan16 xcd16 xct16), xsl16⟩)
    (xcB : codeIn K xcd16 "BoxError.__init__" = true)
    (xkB : keepIn K (.ref g16) = true)
    (xfValueError : findCls K (.type "ValueError") (.type "type") "__init__" = some (.val (.builtin "ValueError.__init__")))
    (xfRuntimeError : findCls K (.type "RuntimeError") (.type "type") "__init__" = some (.val (.builtin "RuntimeError.__init__")))
    (xfOverflowError : findCls K (.type "OverflowError") (.type "type") "__init__" = some (.val (.builtin "OverflowError.__init__")))
    (xfKeyError : findCls K (.type "KeyError") (.type "type") "__init__" = some (.val (.builtin "KeyError.__init__")))
    (z0 : nsIn K mainGlobals "isinstance" = some none)
    (z1 : nsIn K mainGlobals "len" = some none)
    (z2 : nsIn K mainGlobals "range" = some none)
    (z3 : nsIn K mainGlobals "max" = some none)
    (z4 : nsIn K mainGlobals "min" = some none)
    (z5 : nsIn K mainGlobals "repr" = some none)
    (z6 : nsIn K mainGlobals "ValueError" = some none)
    (z7 : nsIn K mainGlobals "LookupError" = some none)
    (z8 : nsIn K mainGlobals "KeyError" = some none)
    (z9 : nsIn K mainGlobals "IndexError" = some none)
    (z10 : nsIn K mainGlobals "RuntimeError" = some none)
    (z11 : nsIn K mainGlobals "OverflowError" = some none)
    (KB : kindsB K [C0, C1, C2, C3, C4, C5, C6, C7, C8, C9, C10, C11, C12, C13, C14, C15] CB = true) :
    ∃ fd : FuncData, (∀ (s : Shared) (v : Value), BindsTo s fd ⟨[v], []⟩ [("_law_script", v)]) ∧ ∀ base : Heap, K.In base → base.Ns mainGlobals mg → FnG l.prog w K mg base CX0 6 fa fd ["_law_script"] (spLaw K) := by
  have e := hfa.symm.trans (PySem.W.mg_of X G a6)
  cases e
  have F0 := fun_mk (st := sPool) l0 c0 k0
  have b0 := F0.binds (ps := ["_law_script", "_law_k"]) fun _ _ _ _ _ _ us hl => match us, hl with | [_, _], _ => rfl
  have m0 := PySem.W.mg_of X G a0
  have F1 := fun_mk (st := sTake) l1 c1 k1
  have b1 := F1.binds (ps := ["_law_pool_here", "_law_sides"]) fun _ _ _ _ _ _ us hl => match us, hl with | [_, _], _ => rfl
  have m1 := PySem.W.mg_of X G a1
  have F2 := fun_mk (st := sL_some) l2 c2 k2
  have b2 := F2.binds (ps := ["_law_one"]) fun _ _ _ _ _ _ us hl => match us, hl with | [_], _ => rfl
  have m2 := PySem.W.mg_of X G a2
  have F3 := fun_mk (st := sL_kinds) l3 c3 k3
  have b3 := F3.binds (ps := ["_law_e"]) fun _ _ _ _ _ _ us hl => match us, hl with | [_], _ => rfl
  have m3 := PySem.W.mg_of X G a3
  have F4 := fun_mk (st := sL_roots) l4 c4 k4
  have b4 := F4.binds (ps := ["_law_e"]) fun _ _ _ _ _ _ us hl => match us, hl with | [_], _ => rfl
  have m4 := PySem.W.mg_of X G a4
  have F5 := fun_mk (st := sL_due) l5 c5 k5
  have b5 := F5.binds (ps := ["_law_at"]) fun _ _ _ _ _ _ us hl => match us, hl with | [_], _ => rfl
  have m5 := PySem.W.mg_of X G a5
  have F6 := fun_mk (st := sLaw) l6 c6 k6
  have M_isinstance := PySem.W.mg_none_of X G z0
  have M_len := PySem.W.mg_none_of X G z1
  have M_range := PySem.W.mg_none_of X G z2
  have M_max := PySem.W.mg_none_of X G z3
  have M_min := PySem.W.mg_none_of X G z4
  have M_repr := PySem.W.mg_none_of X G z5
  have M_ValueError := PySem.W.mg_none_of X G z6
  have M_LookupError := PySem.W.mg_none_of X G z7
  have M_KeyError := PySem.W.mg_none_of X G z8
  have M_IndexError := PySem.W.mg_none_of X G z9
  have M_RuntimeError := PySem.W.mg_none_of X G z10
  have M_OverflowError := PySem.W.mg_none_of X G z11
  refine ⟨PySem.W.fnOf "law" "law" (defArgs sLaw) (defBody sLaw) (defScope sLaw) .none kV6 dc6 pm6 an6 cd6 ct6, fun s v => .of_eq rfl, fun base _ _ => ?_⟩
  have FIB := fun_mk (st := sC_BoxError_init) xlB xcB xkB
  have bIB := FIB.binds (ps := ["self", "value"]) fun _ _ _ _ _ _ us hl => match us, hl with | [_, _], _ => rfl
  have GIB : FnOk l.prog w K mg base CX0 1 g16 _ ["self", "value"] (spIniG K "ValueError.__new__" bbV) := ok_xiBoxError (n := 0) FIB xfValueError M_ValueError
  have FI0 := fun_mk (st := sC_InvalidBox_init) xl0 xcc0 xkk0
  have bI0 := FI0.binds (ps := ["self", "value"]) fun _ _ _ _ _ _ us hl => match us, hl with | [_, _], _ => rfl
  have GI0 : FnOk l.prog w K mg base CX0 2 g0 _ ["self", "value"] (spIniG K "ValueError.__new__" bbV) := ok_xiInvalidBox (n := 1) FI0 (PySem.W.mg_of X G xaB) (mc := .type "type") ⟨xrB, xgB⟩ ⟨xfB, xkB⟩ ((FnOk.raw GIB bIB .nil).imp (fun vs H Q E h => by simpa using h))
  have D0 : ExcC K C0 := ⟨xga0, xgg0, xe0, xh0, xw0, xcn, xct, xm0⟩
  have M0 : XMk l.prog w K mg base "InvalidBox" C0 2 := ⟨⟨_, _, _, _, _, _, _, efV, ⟨⟨_, _, _, _, _, _, _, _, _, _, _, _, _, _, _, xL0, rfl⟩, xsa0, xk0⟩, xi0, xti0, GI0, bI0, fun s self u => .of_eq rfl⟩, PySem.W.mg_of X G xa0, xv_0, ⟨xga0, xgg0, xe0, xh0⟩, D0⟩
  have FI1 := fun_mk (st := sC_InvalidSquare_init) xl1 xcc1 xkk1
  have bI1 := FI1.binds (ps := ["self", "value"]) fun _ _ _ _ _ _ us hl => match us, hl with | [_, _], _ => rfl
  have GI1 : FnOk l.prog w K mg base CX0 2 g1 _ ["self", "value"] (spIniG K "ValueError.__new__" bbV) := ok_xiInvalidSquare (n := 1) FI1 (PySem.W.mg_of X G xaB) (mc := .type "type") ⟨xrB, xgB⟩ ⟨xfB, xkB⟩ ((FnOk.raw GIB bIB .nil).imp (fun vs H Q E h => by simpa using h))
  have D1 : ExcC K C1 := ⟨xga1, xgg1, xe1, xh1, xw1, xcn, xct, xm1⟩
  have M1 : XMk l.prog w K mg base "InvalidSquare" C1 2 := ⟨⟨_, _, _, _, _, _, _, efV, ⟨⟨_, _, _, _, _, _, _, _, _, _, _, _, _, _, _, xL1, rfl⟩, xsa1, xk1⟩, xi1, xti1, GI1, bI1, fun s self u => .of_eq rfl⟩, PySem.W.mg_of X G xa1, xv_1, ⟨xga1, xgg1, xe1, xh1⟩, D1⟩
  have FI2 := fun_mk (st := sC_InvalidRegion_init) xl2 xcc2 xkk2
  have bI2 := FI2.binds (ps := ["self", "value"]) fun _ _ _ _ _ _ us hl => match us, hl with | [_, _], _ => rfl
  have GI2 : FnOk l.prog w K mg base CX0 2 g2 _ ["self", "value"] (spIniG K "ValueError.__new__" bbV) := ok_xiInvalidRegion (n := 1) FI2 (PySem.W.mg_of X G xaB) (mc := .type "type") ⟨xrB, xgB⟩ ⟨xfB, xkB⟩ ((FnOk.raw GIB bIB .nil).imp (fun vs H Q E h => by simpa using h))
  have D2 : ExcC K C2 := ⟨xga2, xgg2, xe2, xh2, xw2, xcn, xct, xm2⟩
  have M2 : XMk l.prog w K mg base "InvalidRegion" C2 2 := ⟨⟨_, _, _, _, _, _, _, efV, ⟨⟨_, _, _, _, _, _, _, _, _, _, _, _, _, _, _, xL2, rfl⟩, xsa2, xk2⟩, xi2, xti2, GI2, bI2, fun s self u => .of_eq rfl⟩, PySem.W.mg_of X G xa2, xv_2, ⟨xga2, xgg2, xe2, xh2⟩, D2⟩
  have FI3 := fun_mk (st := sC_InvalidNumber_init) xl3 xcc3 xkk3
  have bI3 := FI3.binds (ps := ["self", "value"]) fun _ _ _ _ _ _ us hl => match us, hl with | [_, _], _ => rfl
  have GI3 : FnOk l.prog w K mg base CX0 2 g3 _ ["self", "value"] (spIniG K "ValueError.__new__" bbV) := ok_xiInvalidNumber (n := 1) FI3 (PySem.W.mg_of X G xaB) (mc := .type "type") ⟨xrB, xgB⟩ ⟨xfB, xkB⟩ ((FnOk.raw GIB bIB .nil).imp (fun vs H Q E h => by simpa using h))
  have D3 : ExcC K C3 := ⟨xga3, xgg3, xe3, xh3, xw3, xcn, xct, xm3⟩
  have M3 : XMk l.prog w K mg base "InvalidNumber" C3 2 := ⟨⟨_, _, _, _, _, _, _, efV, ⟨⟨_, _, _, _, _, _, _, _, _, _, _, _, _, _, _, xL3, rfl⟩, xsa3, xk3⟩, xi3, xti3, GI3, bI3, fun s self u => .of_eq rfl⟩, PySem.W.mg_of X G xa3, xv_3, ⟨xga3, xgg3, xe3, xh3⟩, D3⟩
  have FI4 := fun_mk (st := sC_InvalidLoops_init) xl4 xcc4 xkk4
  have bI4 := FI4.binds (ps := ["self", "value"]) fun _ _ _ _ _ _ us hl => match us, hl with | [_, _], _ => rfl
  have GI4 : FnOk l.prog w K mg base CX0 2 g4 _ ["self", "value"] (spIniG K "ValueError.__new__" bbV) := ok_xiInvalidLoops (n := 1) FI4 (PySem.W.mg_of X G xaB) (mc := .type "type") ⟨xrB, xgB⟩ ⟨xfB, xkB⟩ ((FnOk.raw GIB bIB .nil).imp (fun vs H Q E h => by simpa using h))
  have D4 : ExcC K C4 := ⟨xga4, xgg4, xe4, xh4, xw4, xcn, xct, xm4⟩
  have M4 : XMk l.prog w K mg base "InvalidLoops" C4 2 := ⟨⟨_, _, _, _, _, _, _, efV, ⟨⟨_, _, _, _, _, _, _, _, _, _, _, _, _, _, _, xL4, rfl⟩, xsa4, xk4⟩, xi4, xti4, GI4, bI4, fun s self u => .of_eq rfl⟩, PySem.W.mg_of X G xa4, xv_4, ⟨xga4, xgg4, xe4, xh4⟩, D4⟩
  have FI5 := fun_mk (st := sC_InvalidAxis_init) xl5 xcc5 xkk5
  have bI5 := FI5.binds (ps := ["self", "value"]) fun _ _ _ _ _ _ us hl => match us, hl with | [_, _], _ => rfl
  have GI5 : FnOk l.prog w K mg base CX0 2 g5 _ ["self", "value"] (spIniG K "ValueError.__new__" bbV) := ok_xiInvalidAxis (n := 1) FI5 (PySem.W.mg_of X G xaB) (mc := .type "type") ⟨xrB, xgB⟩ ⟨xfB, xkB⟩ ((FnOk.raw GIB bIB .nil).imp (fun vs H Q E h => by simpa using h))
  have D5 : ExcC K C5 := ⟨xga5, xgg5, xe5, xh5, xw5, xcn, xct, xm5⟩
  have M5 : XMk l.prog w K mg base "InvalidAxis" C5 2 := ⟨⟨_, _, _, _, _, _, _, efV, ⟨⟨_, _, _, _, _, _, _, _, _, _, _, _, _, _, _, xL5, rfl⟩, xsa5, xk5⟩, xi5, xti5, GI5, bI5, fun s self u => .of_eq rfl⟩, PySem.W.mg_of X G xa5, xv_5, ⟨xga5, xgg5, xe5, xh5⟩, D5⟩
  have FI6 := fun_mk (st := sC_InvalidSpans_init) xl6 xcc6 xkk6
  have bI6 := FI6.binds (ps := ["self", "value"]) fun _ _ _ _ _ _ us hl => match us, hl with | [_, _], _ => rfl
  have GI6 : FnOk l.prog w K mg base CX0 2 g6 _ ["self", "value"] (spIniG K "ValueError.__new__" bbV) := ok_xiInvalidSpans (n := 1) FI6 (PySem.W.mg_of X G xaB) (mc := .type "type") ⟨xrB, xgB⟩ ⟨xfB, xkB⟩ ((FnOk.raw GIB bIB .nil).imp (fun vs H Q E h => by simpa using h))
  have D6 : ExcC K C6 := ⟨xga6, xgg6, xe6, xh6, xw6, xcn, xct, xm6⟩
  have M6 : XMk l.prog w K mg base "InvalidSpans" C6 2 := ⟨⟨_, _, _, _, _, _, _, efV, ⟨⟨_, _, _, _, _, _, _, _, _, _, _, _, _, _, _, xL6, rfl⟩, xsa6, xk6⟩, xi6, xti6, GI6, bI6, fun s self u => .of_eq rfl⟩, PySem.W.mg_of X G xa6, xv_6, ⟨xga6, xgg6, xe6, xh6⟩, D6⟩
  have FI7 := fun_mk (st := sC_InvalidName_init) xl7 xcc7 xkk7
  have bI7 := FI7.binds (ps := ["self", "value"]) fun _ _ _ _ _ _ us hl => match us, hl with | [_, _], _ => rfl
  have GI7 : FnOk l.prog w K mg base CX0 2 g7 _ ["self", "value"] (spIniG K "ValueError.__new__" bbV) := ok_xiInvalidName (n := 1) FI7 (PySem.W.mg_of X G xaB) (mc := .type "type") ⟨xrB, xgB⟩ ⟨xfB, xkB⟩ ((FnOk.raw GIB bIB .nil).imp (fun vs H Q E h => by simpa using h))
  have D7 : ExcC K C7 := ⟨xga7, xgg7, xe7, xh7, xw7, xcn, xct, xm7⟩
  have M7 : XMk l.prog w K mg base "InvalidName" C7 2 := ⟨⟨_, _, _, _, _, _, _, efV, ⟨⟨_, _, _, _, _, _, _, _, _, _, _, _, _, _, _, xL7, rfl⟩, xsa7, xk7⟩, xi7, xti7, GI7, bI7, fun s self u => .of_eq rfl⟩, PySem.W.mg_of X G xa7, xv_7, ⟨xga7, xgg7, xe7, xh7⟩, D7⟩
  have FI8 := fun_mk (st := sC_InvalidText_init) xl8 xcc8 xkk8
  have bI8 := FI8.binds (ps := ["self", "value"]) fun _ _ _ _ _ _ us hl => match us, hl with | [_, _], _ => rfl
  have GI8 : FnOk l.prog w K mg base CX0 2 g8 _ ["self", "value"] (spIniG K "ValueError.__new__" bbV) := ok_xiInvalidText (n := 1) FI8 (PySem.W.mg_of X G xaB) (mc := .type "type") ⟨xrB, xgB⟩ ⟨xfB, xkB⟩ ((FnOk.raw GIB bIB .nil).imp (fun vs H Q E h => by simpa using h))
  have D8 : ExcC K C8 := ⟨xga8, xgg8, xe8, xh8, xw8, xcn, xct, xm8⟩
  have M8 : XMk l.prog w K mg base "InvalidText" C8 2 := ⟨⟨_, _, _, _, _, _, _, efV, ⟨⟨_, _, _, _, _, _, _, _, _, _, _, _, _, _, _, xL8, rfl⟩, xsa8, xk8⟩, xi8, xti8, GI8, bI8, fun s self u => .of_eq rfl⟩, PySem.W.mg_of X G xa8, xv_8, ⟨xga8, xgg8, xe8, xh8⟩, D8⟩
  have FI9 := fun_mk (st := sC_InvalidLine_init) xl9 xcc9 xkk9
  have bI9 := FI9.binds (ps := ["self", "value"]) fun _ _ _ _ _ _ us hl => match us, hl with | [_, _], _ => rfl
  have GI9 : FnOk l.prog w K mg base CX0 2 g9 _ ["self", "value"] (spIniG K "ValueError.__new__" bbV) := ok_xiInvalidLine (n := 1) FI9 (PySem.W.mg_of X G xaB) (mc := .type "type") ⟨xrB, xgB⟩ ⟨xfB, xkB⟩ ((FnOk.raw GIB bIB .nil).imp (fun vs H Q E h => by simpa using h))
  have D9 : ExcC K C9 := ⟨xga9, xgg9, xe9, xh9, xw9, xcn, xct, xm9⟩
  have M9 : XMk l.prog w K mg base "InvalidLine" C9 2 := ⟨⟨_, _, _, _, _, _, _, efV, ⟨⟨_, _, _, _, _, _, _, _, _, _, _, _, _, _, _, xL9, rfl⟩, xsa9, xk9⟩, xi9, xti9, GI9, bI9, fun s self u => .of_eq rfl⟩, PySem.W.mg_of X G xa9, xv_9, ⟨xga9, xgg9, xe9, xh9⟩, D9⟩
  have FI10 := fun_mk (st := sC_Outside_init) xl10 xcc10 xkk10
  have bI10 := FI10.binds (ps := ["self", "value"]) fun _ _ _ _ _ _ us hl => match us, hl with | [_, _], _ => rfl
  have GI10 : FnOk l.prog w K mg base CX0 2 g10 _ ["self", "value"] (spIniG K "ValueError.__new__" bbV) := ok_xiOutside (n := 1) FI10 (PySem.W.mg_of X G xaB) (mc := .type "type") ⟨xrB, xgB⟩ ⟨xfB, xkB⟩ ((FnOk.raw GIB bIB .nil).imp (fun vs H Q E h => by simpa using h))
  have D10 : ExcC K C10 := ⟨xga10, xgg10, xe10, xh10, xw10, xcn, xct, xm10⟩
  have M10 : XMk l.prog w K mg base "Outside" C10 2 := ⟨⟨_, _, _, _, _, _, _, efV, ⟨⟨_, _, _, _, _, _, _, _, _, _, _, _, _, _, _, xL10, rfl⟩, xsa10, xk10⟩, xi10, xti10, GI10, bI10, fun s self u => .of_eq rfl⟩, PySem.W.mg_of X G xa10, xv_10, ⟨xga10, xgg10, xe10, xh10⟩, D10⟩
  have FI11 := fun_mk (st := sC_Unbounded_init) xl11 xcc11 xkk11
  have bI11 := FI11.binds (ps := ["self", "value"]) fun _ _ _ _ _ _ us hl => match us, hl with | [_, _], _ => rfl
  have GI11 : FnOk l.prog w K mg base CX0 2 g11 _ ["self", "value"] (spIniG K "RuntimeError.__new__" bbR) := (ok_xiUnbounded (n := 0) FI11 xfRuntimeError M_RuntimeError).mono (by decide)
  have D11 : ExcC K C11 := ⟨xga11, xgg11, xe11, xh11, xw11, xcn, xct, xm11⟩
  have M11 : XMk l.prog w K mg base "Unbounded" C11 2 := ⟨⟨_, _, _, _, _, _, _, efR, ⟨⟨_, _, _, _, _, _, _, _, _, _, _, _, _, _, _, xL11, rfl⟩, xsa11, xk11⟩, xi11, xti11, GI11, bI11, fun s self u => .of_eq rfl⟩, PySem.W.mg_of X G xa11, xv_11, ⟨xga11, xgg11, xe11, xh11⟩, D11⟩
  have FI12 := fun_mk (st := sC_Blocked_init) xl12 xcc12 xkk12
  have bI12 := FI12.binds (ps := ["self", "value"]) fun _ _ _ _ _ _ us hl => match us, hl with | [_, _], _ => rfl
  have GI12 : FnOk l.prog w K mg base CX0 2 g12 _ ["self", "value"] (spIniG K "RuntimeError.__new__" bbR) := (ok_xiBlocked (n := 0) FI12 xfRuntimeError M_RuntimeError).mono (by decide)
  have D12 : ExcC K C12 := ⟨xga12, xgg12, xe12, xh12, xw12, xcn, xct, xm12⟩
  have M12 : XMk l.prog w K mg base "Blocked" C12 2 := ⟨⟨_, _, _, _, _, _, _, efR, ⟨⟨_, _, _, _, _, _, _, _, _, _, _, _, _, _, _, xL12, rfl⟩, xsa12, xk12⟩, xi12, xti12, GI12, bI12, fun s self u => .of_eq rfl⟩, PySem.W.mg_of X G xa12, xv_12, ⟨xga12, xgg12, xe12, xh12⟩, D12⟩
  have FI13 := fun_mk (st := sC_TooMany_init) xl13 xcc13 xkk13
  have bI13 := FI13.binds (ps := ["self", "value"]) fun _ _ _ _ _ _ us hl => match us, hl with | [_, _], _ => rfl
  have GI13 : FnOk l.prog w K mg base CX0 2 g13 _ ["self", "value"] (spIniG K "OverflowError.__new__" bbO) := (ok_xiTooMany (n := 0) FI13 xfOverflowError M_OverflowError).mono (by decide)
  have D13 : ExcC K C13 := ⟨xga13, xgg13, xe13, xh13, xw13, xcn, xct, xm13⟩
  have M13 : XMk l.prog w K mg base "TooMany" C13 2 := ⟨⟨_, _, _, _, _, _, _, efO, ⟨⟨_, _, _, _, _, _, _, _, _, _, _, _, _, _, _, xL13, rfl⟩, xsa13, xk13⟩, xi13, xti13, GI13, bI13, fun s self u => .of_eq rfl⟩, PySem.W.mg_of X G xa13, xv_13, ⟨xga13, xgg13, xe13, xh13⟩, D13⟩
  have FI14 := fun_mk (st := sC_NoName_init) xl14 xcc14 xkk14
  have bI14 := FI14.binds (ps := ["self", "value"]) fun _ _ _ _ _ _ us hl => match us, hl with | [_, _], _ => rfl
  have GI14 : FnOk l.prog w K mg base CX0 2 g14 _ ["self", "value"] (spIniG K "LookupError.__new__" bbK) := (ok_xiNoName (n := 0) FI14 xfKeyError M_KeyError).mono (by decide)
  have D14 : ExcC K C14 := ⟨xga14, xgg14, xe14, xh14, xw14, xcn, xct, xm14⟩
  have M14 : XMk l.prog w K mg base "NoName" C14 2 := ⟨⟨_, _, _, _, _, _, _, efK, ⟨⟨_, _, _, _, _, _, _, _, _, _, _, _, _, _, _, xL14, rfl⟩, xsa14, xk14⟩, xi14, xti14, GI14, bI14, fun s self u => .of_eq rfl⟩, PySem.W.mg_of X G xa14, xv_14, ⟨xga14, xgg14, xe14, xh14⟩, D14⟩
  have D15 : ExcC K C15 := ⟨xga15, xgg15, xe15, xh15, xw15, xcn, xct, xm15⟩
  have OP : FnOk l.prog w K mg base CX0 1 f0 _ ["_law_script", "_law_k"] (spPool K) := ok_pool F0 M_len
  have OT : FnOk l.prog w K mg base CX0 1 f1 _ ["_law_pool_here", "_law_sides"] (spTake K) := ok_take F1
  have OS : FnOk l.prog w K mg base CX0 4 f2 _ ["_law_one"] (spSome [C0, C1, C2, C3, C4, C5, C6, C7, C8, C9, C10, C11, C12, C13, C14, C15]) := ok_some (n := 2) F2 M0 M1 M2 M3 M4 M5 M6 M7 M8 M9 M10 M11 M12 M13 M14 xq (PySem.W.mg_of X G xa15) xk15
  have OK : FnOk l.prog w K mg base CX0 1 f3 _ ["_law_e"] (spKinds K [C0, C1, C2, C3, C4, C5, C6, C7, C8, C9, C10, C11, C12, C13, C14, C15]) := ok_kinds (n := 0) F3 M_isinstance (PySem.W.mg_of X G xa0) (PySem.W.mg_of X G xa1) (PySem.W.mg_of X G xa2) (PySem.W.mg_of X G xa3) (PySem.W.mg_of X G xa4) (PySem.W.mg_of X G xa5) (PySem.W.mg_of X G xa6) (PySem.W.mg_of X G xa7) (PySem.W.mg_of X G xa8) (PySem.W.mg_of X G xa9) (PySem.W.mg_of X G xa10) (PySem.W.mg_of X G xa11) (PySem.W.mg_of X G xa12) (PySem.W.mg_of X G xa13) (PySem.W.mg_of X G xa14) (PySem.W.mg_of X G xa15)
  have OR : FnOk l.prog w K mg base CX0 1 f4 _ ["_law_e"] (spRoots K CB) := ok_roots (n := 0) F4 M_isinstance M_ValueError (PySem.W.mg_of X G xaB) M_LookupError M_KeyError M_IndexError M_RuntimeError M_OverflowError
  have OD : FnOk l.prog w K mg base CX0 1 f5 _ ["_law_at"] spDue := ok_due (n := 0) F5
  exact ok_law (n := 4) F6 (OP.mono (by decide)) k0 b0 m0 (OT.mono (by decide)) k1 b1 m1 (OS.mono (by decide)) k2 b2 m2 (OK.mono (by decide)) k3 b3 m3 (OR.mono (by decide)) k4 b4 m4 (OD.mono (by decide)) k5 b5 m5 (M0.mono (by decide)) (M1.mono (by decide)) (M2.mono (by decide)) (M3.mono (by decide)) (M4.mono (by decide)) (M5.mono (by decide)) (M6.mono (by decide)) (M7.mono (by decide)) (M8.mono (by decide)) (M9.mono (by decide)) (M10.mono (by decide)) (M11.mono (by decide)) (M12.mono (by decide)) (M13.mono (by decide)) (M14.mono (by decide)) D15 KB M_range M_max M_min M_len M_repr
end Vf

set_option Elab.async false
set_option linter.all false
set_option maxRecDepth 100000
open PySem PySem.W PyProof.Rows
set_option maxHeartbeats 0 in
theorem PySem.Challenge.cw_boxregions_k02_exceptions_apart_holds : PySem.Challenge.rw_boxregions_k02_exceptions_apart.Holds := by
  w_on; o_law; k_head; (case hw => w_witness2)
  k_fill
  refine Vf.walkG (l := PySem.Challenge.rw_boxregions_k02_exceptions_apart) (n := 63) (k := 6) (x := "_law_script") (CX := L2.CX0) (sp := Vf.spLaw) rfl (by decide) rfl ⟨rfl, by decide, by decide⟩ (fun w h Y => PySem.W.kIn_of Y) ?F (fun K H a ns hl _ hS => ⟨a, ns, rfl, hS, hl, fun _ => rfl⟩) (fun _ _ _ _ h => h)
  case F =>
    intro w mg fa h KX G hmg
    refine' Vf.all_mk KX G hmg ?a0 ?l0 ?c0 ?k0 ?a1 ?l1 ?c1 ?k1 ?a2 ?l2 ?c2 ?k2 ?a3 ?l3 ?c3 ?k3 ?a4 ?l4 ?c4 ?k4 ?a5 ?l5 ?c5 ?k5 ?a6 ?l6 ?c6 ?k6 ?xa0 ?xL0 ?xsa0 ?xv_0 ?xi0 ?xti0 ?xl0 ?xcc0 ?xkk0 ?xk0 ?xe0 ?xga0 ?xgg0 ?xh0 ?xw0 ?xm0 ?xa1 ?xL1 ?xsa1 ?xv_1 ?xi1 ?xti1 ?xl1 ?xcc1 ?xkk1 ?xk1 ?xe1 ?xga1 ?xgg1 ?xh1 ?xw1 ?xm1 ?xa2 ?xL2 ?xsa2 ?xv_2 ?xi2 ?xti2 ?xl2 ?xcc2 ?xkk2 ?xk2 ?xe2 ?xga2 ?xgg2 ?xh2 ?xw2 ?xm2 ?xa3 ?xL3 ?xsa3 ?xv_3 ?xi3 ?xti3 ?xl3 ?xcc3 ?xkk3 ?xk3 ?xe3 ?xga3 ?xgg3 ?xh3 ?xw3 ?xm3 ?xa4 ?xL4 ?xsa4 ?xv_4 ?xi4 ?xti4 ?xl4 ?xcc4 ?xkk4 ?xk4 ?xe4 ?xga4 ?xgg4 ?xh4 ?xw4 ?xm4 ?xa5 ?xL5 ?xsa5 ?xv_5 ?xi5 ?xti5 ?xl5 ?xcc5 ?xkk5 ?xk5 ?xe5 ?xga5 ?xgg5 ?xh5 ?xw5 ?xm5 ?xa6 ?xL6 ?xsa6 ?xv_6 ?xi6 ?xti6 ?xl6 ?xcc6 ?xkk6 ?xk6 ?xe6 ?xga6 ?xgg6 ?xh6 ?xw6 ?xm6 ?xa7 ?xL7 ?xsa7 ?xv_7 ?xi7 ?xti7 ?xl7 ?xcc7 ?xkk7 ?xk7 ?xe7 ?xga7 ?xgg7 ?xh7 ?xw7 ?xm7 ?xa8 ?xL8 ?xsa8 ?xv_8 ?xi8 ?xti8 ?xl8 ?xcc8 ?xkk8 ?xk8 ?xe8 ?xga8 ?xgg8 ?xh8 ?xw8 ?xm8 ?xa9 ?xL9 ?xsa9 ?xv_9 ?xi9 ?xti9 ?xl9 ?xcc9 ?xkk9 ?xk9 ?xe9 ?xga9 ?xgg9 ?xh9 ?xw9 ?xm9 ?xa10 ?xL10 ?xsa10 ?xv_10 ?xi10 ?xti10 ?xl10 ?xcc10 ?xkk10 ?xk10 ?xe10 ?xga10 ?xgg10 ?xh10 ?xw10 ?xm10 ?xa11 ?xL11 ?xsa11 ?xv_11 ?xi11 ?xti11 ?xl11 ?xcc11 ?xkk11 ?xk11 ?xe11 ?xga11 ?xgg11 ?xh11 ?xw11 ?xm11 ?xa12 ?xL12 ?xsa12 ?xv_12 ?xi12 ?xti12 ?xl12 ?xcc12 ?xkk12 ?xk12 ?xe12 ?xga12 ?xgg12 ?xh12 ?xw12 ?xm12 ?xa13 ?xL13 ?xsa13 ?xv_13 ?xi13 ?xti13 ?xl13 ?xcc13 ?xkk13 ?xk13 ?xe13 ?xga13 ?xgg13 ?xh13 ?xw13 ?xm13 ?xa14 ?xL14 ?xsa14 ?xv_14 ?xi14 ?xti14 ?xl14 ?xcc14 ?xkk14 ?xk14 ?xe14 ?xga14 ?xgg14 ?xh14 ?xw14 ?xm14 ?xa15 ?xq ?xk15 ?xe15 ?xga15 ?xgg15 ?xh15 ?xw15 ?xm15 ?xcn ?xct ?xaB ?xrB ?xgB ?xfB ?xlB ?xcB ?xkB ?xfValueError ?xfRuntimeError ?xfOverflowError ?xfKeyError ?z0 ?z1 ?z2 ?z3 ?z4 ?z5 ?z6 ?z7 ?z8 ?z9 ?z10 ?z11 ?KB
    (case a0 => k_is)
    (case l0 => k_is)
    (case c0 => k_is)
    (case k0 => k_is)
    (case a1 => k_is)
    (case l1 => k_is)
    (case c1 => k_is)
    (case k1 => k_is)
    (case a2 => k_is)
    (case l2 => k_is)
    (case c2 => k_is)
    (case k2 => k_is)
    (case a3 => k_is)
    (case l3 => k_is)
    (case c3 => k_is)
    (case k3 => k_is)
    (case a4 => k_is)
    (case l4 => k_is)
    (case c4 => k_is)
    (case k4 => k_is)
    (case a5 => k_is)
    (case l5 => k_is)
    (case c5 => k_is)
    (case k5 => k_is)
    (case a6 => k_is)
    (case l6 => k_is)
    (case c6 => k_is)
    (case k6 => k_is)
    (case xa0 => k_is)
    (case xL0 => k_is)
    (case xsa0 => k_is)
    (case xv_0 => k_is)
    (case xi0 => k_is)
    (case xti0 => k_is)
    (case xl0 => k_is)
    (case xcc0 => k_is)
    (case xkk0 => k_is)
    (case xk0 => k_is)
    (case xe0 => k_is)
    (case xga0 => k_is)
    (case xgg0 => k_is)
    (case xh0 => k_is)
    (case xw0 => k_is)
    (case xm0 => k_is)
    (case xa1 => k_is)
    (case xL1 => k_is)
    (case xsa1 => k_is)
    (case xv_1 => k_is)
    (case xi1 => k_is)
    (case xti1 => k_is)
    (case xl1 => k_is)
    (case xcc1 => k_is)
    (case xkk1 => k_is)
    (case xk1 => k_is)
    (case xe1 => k_is)
    (case xga1 => k_is)
    (case xgg1 => k_is)
    (case xh1 => k_is)
    (case xw1 => k_is)
    (case xm1 => k_is)
    (case xa2 => k_is)
    (case xL2 => k_is)
    (case xsa2 => k_is)
    (case xv_2 => k_is)
    (case xi2 => k_is)
    (case xti2 => k_is)
    (case xl2 => k_is)
    (case xcc2 => k_is)
    (case xkk2 => k_is)
    (case xk2 => k_is)
    (case xe2 => k_is)
    (case xga2 => k_is)
    (case xgg2 => k_is)
    (case xh2 => k_is)
    (case xw2 => k_is)
    (case xm2 => k_is)
    (case xa3 => k_is)
    (case xL3 => k_is)
    (case xsa3 => k_is)
    (case xv_3 => k_is)
    (case xi3 => k_is)
    (case xti3 => k_is)
    (case xl3 => k_is)
    (case xcc3 => k_is)
    (case xkk3 => k_is)
    (case xk3 => k_is)
    (case xe3 => k_is)
    (case xga3 => k_is)
    (case xgg3 => k_is)
    (case xh3 => k_is)
    (case xw3 => k_is)
    (case xm3 => k_is)
    (case xa4 => k_is)
    (case xL4 => k_is)
    (case xsa4 => k_is)
    (case xv_4 => k_is)
    (case xi4 => k_is)
    (case xti4 => k_is)
    (case xl4 => k_is)
    (case xcc4 => k_is)
    (case xkk4 => k_is)
    (case xk4 => k_is)
    (case xe4 => k_is)
    (case xga4 => k_is)
    (case xgg4 => k_is)
    (case xh4 => k_is)
    (case xw4 => k_is)
    (case xm4 => k_is)
    (case xa5 => k_is)
    (case xL5 => k_is)
    (case xsa5 => k_is)
    (case xv_5 => k_is)
    (case xi5 => k_is)
    (case xti5 => k_is)
    (case xl5 => k_is)
    (case xcc5 => k_is)
    (case xkk5 => k_is)
    (case xk5 => k_is)
    (case xe5 => k_is)
    (case xga5 => k_is)
    (case xgg5 => k_is)
    (case xh5 => k_is)
    (case xw5 => k_is)
    (case xm5 => k_is)
    (case xa6 => k_is)
    (case xL6 => k_is)
    (case xsa6 => k_is)
    (case xv_6 => k_is)
    (case xi6 => k_is)
    (case xti6 => k_is)
    (case xl6 => k_is)
    (case xcc6 => k_is)
    (case xkk6 => k_is)
    (case xk6 => k_is)
    (case xe6 => k_is)
    (case xga6 => k_is)
    (case xgg6 => k_is)
    (case xh6 => k_is)
    (case xw6 => k_is)
    (case xm6 => k_is)
    (case xa7 => k_is)
    (case xL7 => k_is)
    (case xsa7 => k_is)
    (case xv_7 => k_is)
    (case xi7 => k_is)
    (case xti7 => k_is)
    (case xl7 => k_is)
    (case xcc7 => k_is)
    (case xkk7 => k_is)
    (case xk7 => k_is)
    (case xe7 => k_is)
    (case xga7 => k_is)
    (case xgg7 => k_is)
    (case xh7 => k_is)
    (case xw7 => k_is)
    (case xm7 => k_is)
    (case xa8 => k_is)
    (case xL8 => k_is)
    (case xsa8 => k_is)
    (case xv_8 => k_is)
    (case xi8 => k_is)
    (case xti8 => k_is)
    (case xl8 => k_is)
    (case xcc8 => k_is)
    (case xkk8 => k_is)
    (case xk8 => k_is)
    (case xe8 => k_is)
    (case xga8 => k_is)
    (case xgg8 => k_is)
    (case xh8 => k_is)
    (case xw8 => k_is)
    (case xm8 => k_is)
    (case xa9 => k_is)
    (case xL9 => k_is)
    (case xsa9 => k_is)
    (case xv_9 => k_is)
    (case xi9 => k_is)
    (case xti9 => k_is)
    (case xl9 => k_is)
    (case xcc9 => k_is)
    (case xkk9 => k_is)
    (case xk9 => k_is)
    (case xe9 => k_is)
    (case xga9 => k_is)
    (case xgg9 => k_is)
    (case xh9 => k_is)
    (case xw9 => k_is)
    (case xm9 => k_is)
    (case xa10 => k_is)
    (case xL10 => k_is)
    (case xsa10 => k_is)
    (case xv_10 => k_is)
    (case xi10 => k_is)
    (case xti10 => k_is)
    (case xl10 => k_is)
    (case xcc10 => k_is)
    (case xkk10 => k_is)
    (case xk10 => k_is)
    (case xe10 => k_is)
    (case xga10 => k_is)
    (case xgg10 => k_is)
    (case xh10 => k_is)
    (case xw10 => k_is)
    (case xm10 => k_is)
    (case xa11 => k_is)
    (case xL11 => k_is)
    (case xsa11 => k_is)
    (case xv_11 => k_is)
    (case xi11 => k_is)
    (case xti11 => k_is)
    (case xl11 => k_is)
    (case xcc11 => k_is)
    (case xkk11 => k_is)
    (case xk11 => k_is)
    (case xe11 => k_is)
    (case xga11 => k_is)
    (case xgg11 => k_is)
    (case xh11 => k_is)
    (case xw11 => k_is)
    (case xm11 => k_is)
    (case xa12 => k_is)
    (case xL12 => k_is)
    (case xsa12 => k_is)
    (case xv_12 => k_is)
    (case xi12 => k_is)
    (case xti12 => k_is)
    (case xl12 => k_is)
    (case xcc12 => k_is)
    (case xkk12 => k_is)
    (case xk12 => k_is)
    (case xe12 => k_is)
    (case xga12 => k_is)
    (case xgg12 => k_is)
    (case xh12 => k_is)
    (case xw12 => k_is)
    (case xm12 => k_is)
    (case xa13 => k_is)
    (case xL13 => k_is)
    (case xsa13 => k_is)
    (case xv_13 => k_is)
    (case xi13 => k_is)
    (case xti13 => k_is)
    (case xl13 => k_is)
    (case xcc13 => k_is)
    (case xkk13 => k_is)
    (case xk13 => k_is)
    (case xe13 => k_is)
    (case xga13 => k_is)
    (case xgg13 => k_is)
    (case xh13 => k_is)
    (case xw13 => k_is)
    (case xm13 => k_is)
    (case xa14 => k_is)
    (case xL14 => k_is)
    (case xsa14 => k_is)
    (case xv_14 => k_is)
    (case xi14 => k_is)
    (case xti14 => k_is)
    (case xl14 => k_is)
    (case xcc14 => k_is)
    (case xkk14 => k_is)
    (case xk14 => k_is)
    (case xe14 => k_is)
    (case xga14 => k_is)
    (case xgg14 => k_is)
    (case xh14 => k_is)
    (case xw14 => k_is)
    (case xm14 => k_is)
    (case xa15 => k_is)
    (case xq => k_exc)
    (case xk15 => k_is)
    (case xe15 => k_is)
    (case xga15 => k_is)
    (case xgg15 => k_is)
    (case xh15 => k_is)
    (case xw15 => k_is)
    (case xm15 => k_is)
    (case xcn => k_is)
    (case xct => k_is)
    (case xaB => k_is)
    (case xrB => k_is)
    (case xgB => k_is)
    (case xfB => k_is)
    (case xlB => k_is)
    (case xcB => k_is)
    (case xkB => k_is)
    (case xfValueError => k_is)
    (case xfRuntimeError => k_is)
    (case xfOverflowError => k_is)
    (case xfKeyError => k_is)
    (case z0 => k_is)
    (case z1 => k_is)
    (case z2 => k_is)
    (case z3 => k_is)
    (case z4 => k_is)
    (case z5 => k_is)
    (case z6 => k_is)
    (case z7 => k_is)
    (case z8 => k_is)
    (case z9 => k_is)
    (case z10 => k_is)
    (case z11 => k_is)
    (case KB => kernel_rfl)
